/-
  kurgantop.KurganStarts, walked: a problem in form.
-/
import Derived.Test.YtaobaiifbmhegaaKs
namespace Go.Proofs.Ytaobaiifbmhegaa
open Go.RowKit
set_option linter.unusedVariables false
set_option maxRecDepth 100000 in
set_option maxHeartbeats 8000000 in
theorem kstarts_ok (kd N C : Int) (wl vl : List Int) (cl : List (List Int)) (wa va ca : Option Addr) (wc vc cc : Nat) (w : World) (h1 : Ints w wa wl) (h2 : Ints w va vl) (h3 : RwF w ca cl) (hc : chk kd N C wl vl cl = 0) (h9 : N ≤ 9) :
    Calls Try.prog 7 #[.agg #[.int .i64 kd, .int .i64 N, .int .i64 C, .slice wa wl.length wc, .slice va vl.length vc, .slice ca cl.length cc]] w fun e w' => e = .returned (.bool true) ∧ Below w.heap.size w w' := by
  have bA : Below w.heap.size w (w.alloc (.cells #[.int .i64 kd, .int .i64 N, .int .i64 C, .slice wa wl.length wc, .slice va vl.length vc, .slice ca cl.length cc] 25)) := bl_al (Below.refl _ _) _
  have Q0 := Lib.hid (heap_alloc_new w (.cells #[.int .i64 kd, .int .i64 N, .int .i64 C, .slice wa wl.length wc, .slice va vl.length vc, .slice ca cl.length cc] 25))
  have HS := Lib.hid (fun W => sd.stands_any W)
  have HC := Lib.hid (fun (W : World) (hb : Below w.heap.size w W) => check_raw kd N C wl vl cl wa va ca wc vc cc W (h1.keep hb) (h2.keep hb) (h3.keep hb))
  have BA := Lib.hid bA
  have PW := Lib.hid (raw_prob hc h1 h2 h3)
  have HCk := Lib.hid hc
  rw [hc] at HC
  clear h1 h2 h3 bA hc
  go_enter Try.func7, Try.ntmps7
  go_wp2_with fail
  refine (HS.out _).mono ?_; rintro e w1 ⟨rfl, hb1⟩
  have B1 := Lib.hid (bl_tr BA.out hb1)
  have Q1 := Lib.hid ((hb1.block _ (lt_hp Q0.out)).trans Q0.out)
  obtain ⟨c0, c1, c2, c3, c4, c5⟩ := box6 Q1.out
  clear hb1
  go_wp2_with fail
  refine (HC.out w1 B1.out).mono ?_; rintro e w2 ⟨rfl, hb2⟩
  have B2 := Lib.hid (bl_tr B1.out hb2)
  have Q2 := Lib.hid ((hb2.block _ (lt_hp Q1.out)).trans Q1.out)
  clear c0 c1 c2 c3 c4 c5
  obtain ⟨c0, c1, c2, c3, c4, c5⟩ := box6 Q2.out
  clear hb2
  have hw2 := PW.out.keep B2.out
  have CP := Lib.hid (icopy_any kd N C wl vl cl wa va ca wc vc cc hw2.2.2.2.1 hw2.2.2.2.2.1 hw2.2.2.2.2.2 w2 hw2.1 hw2.2.1 hw2.2.2.1)
  have LL := Lib.hid hw2.2.2.2
  clear hw2 HC HS PW Q0 BA B1 Q1
  go_wp2_with fail
  refine CP.out.mono ?_; rintro e w3 ⟨a1, a2, a3, k1, k2, k3, rfl, hb3, l1, l2, l3⟩
  have q3 := (hb3.block _ (lt_hp Q2.out)).trans Q2.out
  have H3 : C3 w2.heap.size w3 a1 a2 a3 wl vl cl := ⟨l1, l2, l3⟩
  have BX := Lib.hid (six_below (bl_tr B2.out hb3) (Nat.le_refl w.heap.size) (.int .i64 kd) (.int .i64 N) (.int .i64 C) (.slice a1 wl.length k1) (.slice a2 vl.length k2) (.slice a3 cl.length k3))
  have S1 := Lib.hid (six q3 (.int .i64 kd) (.int .i64 N) (.int .i64 C) (.slice a1 wl.length k1) (.slice a2 vl.length k2) (.slice a3 cl.length k3))
  have PX := Lib.hid ((H3.other q3 (fun k hk => six_other (w := w3) hk (.int .i64 kd) (.int .i64 N) (.int .i64 C) (.slice a1 wl.length k1) (.slice a2 vl.length k2) (.slice a3 cl.length k3))).prob LL.out.1 LL.out.2.1 LL.out.2.2)
  clear c0 c1 c2 c3 c4 c5
  obtain ⟨c0, c1, c2, c3, c4, c5⟩ := box6 q3
  have cf := fr6 q3
  have hs := lt_hp q3
  clear hb3 l1 l2 l3 q3 H3 CP LL B2 Q2
  go_upto_region 4 with fail
  clear c0 c1 c2 c3 c4 c5 cf hs
  generalize ((((((w3.setCell ⟨w.heap.size, 0, none⟩ (.int .i64 kd)).setCell ⟨w.heap.size, 1, none⟩ (.int .i64 N)).setCell ⟨w.heap.size, 2, none⟩ (.int .i64 C)).setCell ⟨w.heap.size, 3, none⟩ (.slice a1 wl.length k1)).setCell ⟨w.heap.size, 4, none⟩ (.slice a2 vl.length k2)).setCell ⟨w.heap.size, 5, none⟩ (.slice a3 cl.length k3)) = X at *
  have H6 := Lib.hid (fun (W : World) (h : Below X.heap.size X W) => box6 ((h.block _ (lt_hp S1.out)).trans S1.out))
  have ST := Lib.hid (start_any kd N C wl vl cl a1 a2 a3 k1 k2 k3 X PX.out)
  obtain ⟨c0, c1, c2, c3, c4, c5⟩ := H6.out X (Below.refl _ _)
  go_wp2_with fail
  refine ST.out.mono ?_; rintro e w4 h
  clear c0 c1 c2 c3 c4 c5 ST
  rcases h with ⟨hc, _⟩ | ⟨hc, gR, cR, x, fx, rfl, hy⟩
  · exact absurd HCk.out hc
  have hcx := first_ok hc fx
  have hl := cost_len hcx
  have hNn : N = (x.length : Int) := (cost_some hcx).2.1.symm
  have GD := run_gd (K := kd) (f := costR kd N C wl vl cl) (n := x.length) 50 (p := (x, (costR kd N C wl vl cl x).1)) ⟨rfl, by show costR kd N C wl vl cl x = _; rw [← hcx]⟩
  have hp := plain_cost hc
  have hpl : (plainR kd N C wl vl cl).length = x.length := by have := (plain_len hc).1; omega
  have GP := run_gd (K := kd) (f := costR kd N C wl vl cl) (n := (plainR kd N C wl vl cl).length) 50 (p := (plainR kd N C wl vl cl, (costR kd N C wl vl cl (plainR kd N C wl vl cl)).1)) ⟨rfl, by show costR kd N C wl vl cl (plainR kd N C wl vl cl) = _; rw [← hp]⟩
  have TB : (runR (costR kd N C wl vl cl) kd x.length 50 (x, (costR kd N C wl vl cl x).1)).2 ≤ totalR kd N C wl vl cl := by
    have := cost_le kd N C wl vl cl (runR (costR kd N C wl vl cl) kd x.length 50 (x, (costR kd N C wl vl cl x).1)).1 (by rw [GD.1.2])
    rw [GD.1.2] at this
    exact this
  have BD : 0 ≤ (runR (costR kd N C wl vl cl) kd x.length 50 (x, (costR kd N C wl vl cl x).1)).2 ∧ (runR (costR kd N C wl vl cl) kd x.length 50 (x, (costR kd N C wl vl cl x).1)).2 ≤ 137438953408 := by
    have := cost_bd kd N C wl vl cl (runR (costR kd N C wl vl cl) kd x.length 50 (x, (costR kd N C wl vl cl x).1)).1
    rw [GD.1.2] at this
    exact this
  have TO := Lib.hid (fun (W : World) (hW : Below X.heap.size X W) => total_any kd N C wl vl cl a1 a2 a3 k1 k2 k3 W (PX.out.keep hW))
  have OF := Lib.hid (fun (W : World) (hW : Below X.heap.size X W) => of_any' kd N C (runR (costR kd N C wl vl cl) kd x.length 50 (x, (costR kd N C wl vl cl x).1)).2 (by omega) wl vl cl a1 a2 a3 k1 k2 k3 W (PX.out.keep hW))
  have PL : Hid (∀ (W : World), Below X.heap.size X W → Calls Try.prog 24 #[.agg #[.int .i64 kd, .int .i64 N, .int .i64 C, .slice a1 wl.length k1, .slice a2 vl.length k2, .slice a3 cl.length k3]] W fun e w' => ∃ g, e = .returned (.slice (some ⟨g, 0, none⟩) x.length x.length) ∧ Below W.heap.size W w' ∧ Hid (IntsO w' g (plainR kd N C wl vl cl))) := fun W hW => (plain_q kd N C wl vl cl hc a1 a2 a3 k1 k2 k3 W (PX.out.keep hW)).mono fun e w' q => by
    obtain ⟨g, e1, b1, i1⟩ := q
    rw [hpl] at e1
    exact ⟨g, e1, b1, i1⟩
  have BT : Hid (∀ (W : World) (g : Nat), Below X.heap.size X W → IntsO W g (plainR kd N C wl vl cl) → Calls Try.prog 16 #[.agg #[.int .i64 kd, .int .i64 N, .int .i64 C, .slice a1 wl.length k1, .slice a2 vl.length k2, .slice a3 cl.length k3], .slice (some ⟨g, 0, none⟩) x.length x.length] W fun e w' => ∃ g' cap, e = .returned (.tuple #[.slice (some ⟨g', 0, none⟩) x.length cap, .int .i64 0]) ∧ Hid (od.Own W.heap.size g' x.length cap (runR (costR kd N C wl vl cl) kd (plainR kd N C wl vl cl).length 50 (plainR kd N C wl vl cl, (costR kd N C wl vl cl (plainR kd N C wl vl cl)).1)).1 W w')) := fun W g hW ip => by
    have := (better_any kd N C wl vl cl (plainR kd N C wl vl cl) a1 a2 a3 (some ⟨g, 0, none⟩) k1 k2 k3 (plainR kd N C wl vl cl).length W (PX.out.keep hW) ip.ints (by omega) ⟨Nat.le_refl _, by omega⟩)
    rw [hpl] at this
    refine this.mono fun e w' q => ?_
    rcases q with ⟨q, _⟩ | ⟨_, g', cap, e1, ho⟩
    · exact absurd hp q
    · rw [hpl] at e1 ho
      rw [hpl]
      exact ⟨g', cap, e1, ho⟩
  have CO : Hid (∀ (W : World) (B g cap : Nat) (w0 : World), Below X.heap.size X W → od.Own B g x.length cap (runR (costR kd N C wl vl cl) kd (plainR kd N C wl vl cl).length 50 (plainR kd N C wl vl cl, (costR kd N C wl vl cl (plainR kd N C wl vl cl)).1)).1 w0 W → Calls Try.prog 25 #[.agg #[.int .i64 kd, .int .i64 N, .int .i64 C, .slice a1 wl.length k1, .slice a2 vl.length k2, .slice a3 cl.length k3], .slice (some ⟨g, 0, none⟩) x.length cap] W fun e w' => e = .returned (.tuple #[.int .i64 (runR (costR kd N C wl vl cl) kd (plainR kd N C wl vl cl).length 50 (plainR kd N C wl vl cl, (costR kd N C wl vl cl (plainR kd N C wl vl cl)).1)).2, .int .i64 0]) ∧ Below W.heap.size W w') := fun W B g cap w0 hW h => by
    have := cost_any kd N C wl vl cl _ a1 a2 a3 (some ⟨g, 0, none⟩) k1 k2 k3 cap W (PX.out.keep hW) (own_ints h) (by rw [h.1]; omega)
    rw [h.1, GP.1.2] at this
    exact this
  have CQ : Hid (∀ (W : World) (g : Nat), Below X.heap.size X W → IntsO W g (plainR kd N C wl vl cl) → Calls Try.prog 25 #[.agg #[.int .i64 kd, .int .i64 N, .int .i64 C, .slice a1 wl.length k1, .slice a2 vl.length k2, .slice a3 cl.length k3], .slice (some ⟨g, 0, none⟩) x.length x.length] W fun e w' => e = .returned (.tuple #[.int .i64 (costR kd N C wl vl cl (plainR kd N C wl vl cl)).1, .int .i64 0]) ∧ Below W.heap.size W w') := fun W g hW ip => by
    have := cost_any kd N C wl vl cl _ a1 a2 a3 (some ⟨g, 0, none⟩) k1 k2 k3 (plainR kd N C wl vl cl).length W (PX.out.keep hW) ip.ints (by omega)
    rw [hpl, hp] at this
    exact this
  have VA : Hid (∀ (W : World) (B g cap : Nat) (w0 : World), Below X.heap.size X W → od.Own B g x.length cap (runR (costR kd N C wl vl cl) kd x.length 50 (x, (costR kd N C wl vl cl x).1)).1 w0 W → Calls Try.prog 26 #[.agg #[.int .i64 kd, .int .i64 N, .int .i64 C, .slice a1 wl.length k1, .slice a2 vl.length k2, .slice a3 cl.length k3], .slice (some ⟨g, 0, none⟩) x.length cap] W fun e w' => e = .returned (.tuple #[.int .i64 (ofR kd N C wl vl cl (runR (costR kd N C wl vl cl) kd x.length 50 (x, (costR kd N C wl vl cl x).1)).2), .int .i64 0]) ∧ Below W.heap.size W w') := fun W B g cap w0 hW h => by
    have := value_any kd N C wl vl cl _ a1 a2 a3 (some ⟨g, 0, none⟩) k1 k2 k3 cap W (PX.out.keep hW) (own_ints h) (by rw [h.1]; omega)
    rw [h.1, value_ok (by rw [GD.1.2]), GD.1.2] at this
    exact this
  have LE := Lib.hid GP.2
  have TBh := Lib.hid TB
  have OR := Lib.hid hy
  have B4 := Lib.hid hy.2.2.2
  clear hy hc hcx fx GD GP hp TB BD HCk hl
  generalize runR (costR kd N C wl vl cl) kd x.length 50 (x, (costR kd N C wl vl cl x).1) = rr at *
  generalize runR (costR kd N C wl vl cl) kd (plainR kd N C wl vl cl).length 50 (plainR kd N C wl vl cl, (costR kd N C wl vl cl (plainR kd N C wl vl cl)).1) = rp at *
  simp only at LE
  generalize (costR kd N C wl vl cl (plainR kd N C wl vl cl)).1 = cp at *
  generalize plainR kd N C wl vl cl = pl at *
  generalize totalR kd N C wl vl cl = tt at *
  obtain ⟨r1, r2⟩ := rr
  obtain ⟨p1, p2⟩ := rp
  simp only at LE TBh OF CO VA OR
  generalize ofR kd N C wl vl cl r2 = ov at *
  obtain ⟨n, hn⟩ : ∃ n, n = x.length := ⟨_, rfl⟩
  rw [← hn] at PL BT CO CQ VA OR hNn ⊢
  clear hn hpl
  subst hNn
  go_wp2
  have K0 := Lib.hid (H6.out w4 B4.out)
  go_region_held3 (fun w' => w'.cell? ⟨w.heap.size, 0, none⟩ = some (.int .i64 kd) ∧ w'.cell? ⟨w.heap.size, 1, none⟩ = some (.int .i64 (n : Int)) ∧ w'.cell? ⟨w.heap.size, 2, none⟩ = some (.int .i64 C) ∧ w'.cell? ⟨w.heap.size, 3, none⟩ = some (.slice a1 wl.length k1) ∧ w'.cell? ⟨w.heap.size, 4, none⟩ = some (.slice a2 vl.length k2) ∧ w'.cell? ⟨w.heap.size, 5, none⟩ = some (.slice a3 cl.length k3)) (first | exact K0.out | exact K1.out | exact K2.out)
    (first
      | (go_at_call 24; refine (PL.out _ (bl_tr B4.out (bl_drew w4))).mono ?_; rintro e x1 ⟨gp, rfl, b1, ip⟩; have b1 := bl_undr b1; have Y1 := Lib.hid (bl_tr B4.out b1); have K1 := Lib.hid (H6.out x1 Y1.out); have O1 := Lib.hid (OR.out.keep b1); clear b1)
      | (go_at_call 16; refine (BT.out _ _ Y1.out ip.out).mono ?_; rintro e x2 ⟨gy, cy, rfl, hy⟩; have b2 := hy.out.2.2.2; have Y2 := Lib.hid (bl_tr Y1.out b2); have K2 := Lib.hid (H6.out x2 Y2.out); have O2 := Lib.hid (O1.out.keep b2); clear b2))
  all_goals
    clear K0 K1 O1 OR ip BT
    obtain ⟨c0, c1, c2, c3, c4, c5⟩ := K2.out
    go_wp2_with fail
    refine (CO.out x2 _ gy cy _ Y2.out hy.out).mono ?_; rintro e x3 ⟨rfl, b3⟩
    have Y3 := Lib.hid (bl_tr Y2.out b3)
    have O3 := Lib.hid (O2.out.keep b3)
    have K3 := Lib.hid (H6.out x3 Y3.out)
    clear c0 c1 c2 c3 c4 c5 b3 K2 O2 CO hy
    go_wp2
    go_region_held3 (fun w' => w'.cell? ⟨w.heap.size, 0, none⟩ = some (.int .i64 kd) ∧ w'.cell? ⟨w.heap.size, 1, none⟩ = some (.int .i64 (n : Int)) ∧ w'.cell? ⟨w.heap.size, 2, none⟩ = some (.int .i64 C) ∧ w'.cell? ⟨w.heap.size, 3, none⟩ = some (.slice a1 wl.length k1) ∧ w'.cell? ⟨w.heap.size, 4, none⟩ = some (.slice a2 vl.length k2) ∧ w'.cell? ⟨w.heap.size, 5, none⟩ = some (.slice a3 cl.length k3)) (first | exact K3.out | exact K4.out | exact K5.out)
      (first
        | (go_at_call 24; refine (PL.out _ (bl_tr Y3.out (bl_drew x3))).mono ?_; rintro e x4 ⟨gq, rfl, b4, iq⟩; have b4 := bl_undr b4; have Y4 := Lib.hid (bl_tr Y3.out b4); have K4 := Lib.hid (H6.out x4 Y4.out); have O4 := Lib.hid (O3.out.keep b4); clear b4)
        | (go_at_call 25; refine (CQ.out _ _ Y4.out iq.out).mono ?_; rintro e x5 ⟨rfl, b5⟩; have Y5 := Lib.hid (bl_tr Y4.out b5); have K5 := Lib.hid (H6.out x5 Y5.out); have O5 := Lib.hid (O4.out.keep b5); clear b5))
    all_goals
      clear K3 K4 O3 O4 iq PL CQ
      obtain ⟨c0, c1, c2, c3, c4, c5⟩ := K5.out
      go_wp2_with fail
      refine (VA.out x5 _ gR cR _ Y5.out O5.out).mono ?_; rintro e x6 ⟨rfl, b6⟩
      have Y6 := Lib.hid (bl_tr Y5.out b6)
      clear c0 c1 c2 c3 c4 c5 b6 K5 O5 VA
      obtain ⟨c0, c1, c2, c3, c4, c5⟩ := H6.out x6 Y6.out
      have dl := LE.out
      have dt := TBh.out
      go_wp2_with fail
      refine (TO.out x6 Y6.out).mono ?_; rintro e x7 ⟨rfl, b7⟩
      have Y7 := Lib.hid (bl_tr Y6.out b7)
      clear c0 c1 c2 c3 c4 c5 b7 TO
      obtain ⟨c0, c1, c2, c3, c4, c5⟩ := H6.out x7 Y7.out
      go_wp2_with fail
      refine (OF.out x7 Y7.out).mono ?_; rintro e x8 ⟨rfl, b8⟩
      have Y8 := Lib.hid (bl_tr Y7.out b8)
      clear c0 c1 c2 c3 c4 c5 b8 OF
      obtain ⟨c0, c1, c2, c3, c4, c5⟩ := H6.out x8 Y8.out
      have HE := Lib.hid (BX.out.trans (Y8.out.mono BX.out.size))
      go_wp2
      first
        | exact ⟨rfl, HE.out⟩
        | (go_ret; exact ⟨rfl, HE.out⟩)
theorem kurganStarts_walk (kd N C : Int) (wl vl : List Int) (cl : List (List Int)) (wa va ca : Option Addr) (wc vc cc : Nat) (w : World) (h1 : Ints w wa wl) (h2 : Ints w va vl) (h3 : RwF w ca cl) :
    Calls Try.prog 7 #[.agg #[.int .i64 kd, .int .i64 N, .int .i64 C, .slice wa wl.length wc, .slice va vl.length vc, .slice ca cl.length cc]] w fun e w' => e = .returned (.bool true) ∧ Below w.heap.size w w' := by
  by_cases hc : chk kd N C wl vl cl = 0
  · by_cases h9 : N ≤ 9
    · exact kstarts_ok kd N C wl vl cl wa va ca wc vc cc w h1 h2 h3 hc h9
    · exact kstarts_no kd N C wl vl cl wa va ca wc vc cc w h1 h2 h3 (.inr (by omega))
  · exact kstarts_no kd N C wl vl cl wa va ca wc vc cc w h1 h2 h3 (.inl hc)
end Go.Proofs.Ytaobaiifbmhegaa

/-
  kurganlaw10.GreedyBetters, walked.
-/
import Derived.Test.YtaobaiifbmhegaaFw
import Derived.Test.YtaobaiifbmhegaaRe
namespace Go.Proofs.Ytaobaiifbmhegaa
open Go.RowKit
set_option linter.unusedVariables false
theorem rbet_any (K N C : Int) (wl vl : List Int) (cl : List (List Int)) (x : List Int) (wa va ca xa : Option Addr) (wc vc cc xc : Nat) (w : World) (h : Prob w wl vl cl wa va ca) (hI : Ints w xa x) (hl : x.length ≤ 1000) (hx : x.length ≤ xc ∧ xc ≤ 9223372036854775807) :
    Calls Try.prog 17 #[.agg #[.int .i64 K, .int .i64 N, .int .i64 C, .slice wa wl.length wc, .slice va vl.length vc, .slice ca cl.length cc], .slice xa x.length xc] w (RbP K N C wl vl cl x w) := by
  by_cases hc : (costR K N C wl vl cl x).2 = 0
  · have l64 := cost_len hc
    obtain ⟨b, o, e, hb, _⟩ := hI 0 (by omega)
    subst e
    have hN : N = (x.length : Int) := (cost_some hc).2.1.symm
    subst hN
    have bA : Below w.heap.size w (w.alloc (ob K x.length C (.slice wa wl.length wc) (.slice va vl.length vc) (.slice ca cl.length cc))) := bl_al (Below.refl _ _) _
    have hg : Gd (costR K x.length C wl vl cl) x.length (x, (costR K x.length C wl vl cl x).1) := ⟨rfl, by show costR K x.length C wl vl cl x = _; rw [← hc]⟩
    have hC0 := refCost_any K x.length C wl vl cl x wa va ca (some ⟨b, o, none⟩) wc vc cc xc _ (h.keep bA) (hI.keep bA) (by omega)
    rw [hc] at hC0
    refine rbet_core (costR K x.length C wl vl cl) K C (.slice wa wl.length wc) (.slice va vl.length vc) (.slice ca cl.length cc) x (costR K x.length C wl vl cl x).1 x.length b o xc rfl l64.1 l64.2 hx w hb (fun j hj => ?_) hg (fro K) (K == 3) rfl (by unfold fro; by_cases h : K = 3 <;> simp [h]) rfl hC0 (chp_any _ _ _ _ _ _ _ (by omega) _) (rcp_any _ _ _ _ _ _ _ _ _ _ _ _ _ (by omega) _ (h.keep bA)) _ (fun g cap W' ho => .inr ⟨hc, g, cap, rfl, ho⟩)
    obtain ⟨b', o', e, _, c⟩ := hI j hj
    injection e with e; injection e with e1 e2; subst e1; subst e2
    rw [od_nth]; unfold nth; exact c
  · exact rbet_no K N C wl vl cl x wa va ca xa wc vc cc xc w h hI hl hc
theorem same_nil (w : World) : Calls Try.prog 13 #[.slice none 0 0, .slice none 0 0] w fun e w' => e = .returned (.bool true) ∧ Below w.heap.size w w' :=
  od.same_any [] [] (by simp) (by simp) none none 0 0 w (fun j hj => absurd hj (by simp)) (fun j hj => absurd hj (by simp))
theorem same_own {B B2 g g2 n c c2 : Nat} {l : List Int} {w0 w1 w : World} (h1 : od.Own B g n c l w0 w) (h2 : od.Own B2 g2 n c2 l w1 w) (hn : n ≤ 1000) : Calls Try.prog 13 #[.slice (some ⟨g, 0, none⟩) n c, .slice (some ⟨g2, 0, none⟩) n c2] w fun e w' => e = .returned (.bool true) ∧ Below w.heap.size w w' := by
  have := od.same_any l l (by rw [h1.1]; exact hn) (by rw [h1.1]; exact hn) _ _ c c2 w h1.ints h2.ints
  rw [h1.1, decide_eq_true rfl] at this
  exact this
/-- a list's first numbers, appended to none: what the cut leaves -/
theorem own_nil (X : World) : od.Own X.heap.size X.heap.size 0 0 [] X (X.alloc (.cells #[] 3)) := ⟨rfl, Nat.le_refl _, od.own0 X, bl_al (Below.refl _ _) _⟩
theorem own_app {X w1 : World} {g cap : Nat} {l : List Int} (h1 : w1.ownsRow X.heap.size 3 1 (.slice (some ⟨g, 0, none⟩) l.length cap) l.length (l.map (Value.int .i64))) (hb : Below X.heap.size X w1) : od.Own X.heap.size g l.length cap l X w1 := by
  rcases h1.2 with ⟨h', _⟩ | ⟨g', cap', cur, h', hg, _⟩
  · cases h'
  · injection h' with h' _ _
    injection h' with h'
    injection h' with h'
    subst h'
    exact ⟨rfl, hg, h1, hb⟩
theorem nt_cells {X : World} {b o : Nat} {l : List Int} (hb : b < X.heap.size) (hc : ∀ j, j < l.length → X.cell? ⟨b, o + j, none⟩ = some (.int .i64 (kn.nt l j))) : ∀ j u, (l.map (Value.int .i64))[j]? = some u → (X.alloc (.cells #[] 3)).cell? ((⟨b, o, none⟩ : Addr).add j) = some u :=
  od.app_src hb (fun j hj => by rw [hc j hj]; unfold kn.nt od.nth; rfl)
theorem arg_keep {K : Nat} {W W1 : World} {a : Option Addr} {n c : Nat} {l : List Int} (h : kn.Arg K W a n c l) (hb : Below W.heap.size W W1) : kn.Arg K W1 a n c l := by
  rcases h with h | h | ⟨b, o, e, h1, h2, h3, h4, h5⟩
  · exact .inl h
  · exact .inr (.inl h)
  · exact .inr (.inr ⟨b, o, e, h1, h2, Nat.lt_of_lt_of_le h3 hb.size, fun j hj => (hb.cell (p := ⟨b, o + j, none⟩) h3).trans (h4 j hj), h5⟩)
set_option maxRecDepth 100000 in
set_option maxHeartbeats 8000000 in
theorem greedyBetters_walk (kd N C : Int) (wl vl : List Int) (cl : List (List Int)) (wa va ca : Option Addr) (wn vn cn wc vc cc : Nat) (x : List Int) (xa : Option Addr) (xn xc : Nat) (w : World) (h1 : Src w wa wn wc wl) (h2 : Src w va vn vc vl) (h3 : RSrc w ca cn cc cl) (h4 : kn.Arg 30 w xa xn xc x) :
    Calls Try.prog 4 #[.agg #[.int .i64 kd, .int .i64 N, .int .i64 C, .slice wa wn wc, .slice va vn vc, .slice ca cn cc], .slice xa xn xc] w fun e w' => e = .returned (.bool true) ∧ Below w.heap.size w w' := by
  obtain ⟨i0, hi, hz0, hz1, hz2⟩ := info_parts od.info3
  have bA : Below w.heap.size w (w.alloc (.cells #[.int .i64 kd, .int .i64 N, .int .i64 C, .slice wa wn wc, .slice va vn vc, .slice ca cn cc] 25)) := bl_al (Below.refl _ _) _
  have HC := Lib.hid (few_any kd N C wl vl cl wa va ca wn vn cn wc vc cc _ (h1.keep bA) (h2.keep bA) (h3.keep bA))
  have HB := Lib.hid bA
  have Q0 := Lib.hid (heap_alloc_new w (.cells #[.int .i64 kd, .int .i64 N, .int .i64 C, .slice wa wn wc, .slice va vn vc, .slice ca cn cc] 25))
  have l1 : wl.length ≤ 1000 := by have := h1.1; omega
  have l2 : vl.length ≤ 1000 := by have := h2.1; omega
  have l3 : cl.length ≤ 1000 := by have := h3.1; omega
  have hx30 : x.length ≤ 30 := h4.len.1
  have HArg := Lib.hid (fun W (hb : Below w.heap.size w W) => arg_keep h4 hb)
  have HF := Lib.hid (fun W => finds_any W)
  clear h1 h2 h3 h4
  go_enter Try.func4, Try.ntmps4
  go_wp2_with fail
  refine HC.out.mono ?_; rintro e w1 ⟨N', g1, k1, g2, k2, ca', cc', rfl, hb, i1, i2, rw⟩
  have q0 := (hb.block _ (lt_hp Q0.out)).trans Q0.out
  have H3 : L3 (w.alloc (.cells #[.int .i64 kd, .int .i64 N, .int .i64 C, .slice wa wn wc, .slice va vn vc, .slice ca cn cc] 25)).heap.size w1 g1 g2 ca' wl vl cl := ⟨i1, i2, rw⟩
  have BX := Lib.hid (six_below (bl_tr HB.out hb) (Nat.le_refl w.heap.size) (.int .i64 kd) (.int .i64 N') (.int .i64 C) (.slice (some ⟨g1, 0, none⟩) wl.length k1) (.slice (some ⟨g2, 0, none⟩) vl.length k2) (.slice ca' cl.length cc'))
  have S1 := Lib.hid (six q0 (.int .i64 kd) (.int .i64 N') (.int .i64 C) (.slice (some ⟨g1, 0, none⟩) wl.length k1) (.slice (some ⟨g2, 0, none⟩) vl.length k2) (.slice ca' cl.length cc'))
  have PX := Lib.hid ((H3.other q0 (fun k hk => six_other (w := w1) hk (.int .i64 kd) (.int .i64 N') (.int .i64 C) (.slice (some ⟨g1, 0, none⟩) wl.length k1) (.slice (some ⟨g2, 0, none⟩) vl.length k2) (.slice ca' cl.length cc'))).prob l1 l2 l3)
  obtain ⟨c0, c1, c2, c3, c4, c5⟩ := box6 q0
  have cf := fr6 q0
  have hs := lt_hp q0
  clear hb i1 i2 rw q0 HC HB H3 Q0 bA
  go_upto_region 2 with fail
  clear c0 c1 c2 c3 c4 c5 cf hs
  generalize ((((((w1.setCell ⟨w.heap.size, 0, none⟩ (.int .i64 kd)).setCell ⟨w.heap.size, 1, none⟩ (.int .i64 N')).setCell ⟨w.heap.size, 2, none⟩ (.int .i64 C)).setCell ⟨w.heap.size, 3, none⟩ (.slice (some ⟨g1, 0, none⟩) wl.length k1)).setCell ⟨w.heap.size, 4, none⟩ (.slice (some ⟨g2, 0, none⟩) vl.length k2)).setCell ⟨w.heap.size, 5, none⟩ (.slice ca' cl.length cc')) = X at *
  have ho := od.own0 X
  have HA := Lib.hid (HArg.out X BX.out)
  have H6 := Lib.hid (fun (W : World) (h : Below X.heap.size X W) => box6 ((h.block _ (lt_hp S1.out)).trans S1.out))
  clear HArg
  go_cut [1] from 16 (fun v1 wx => ∃ gx cx, v1 = .slice (some ⟨gx, 0, none⟩) x.length cx ∧ Hid (od.Own X.heap.size gx x.length cx x X wx))
  case first =>
    rcases HA.out with ⟨rfl, rfl, rfl, rfl⟩ | ⟨ad, rfl, rfl, q2, rfl⟩ | ⟨b, o, rfl, q1, q2, q3, q4, ⟨q5, q6⟩ | ⟨q5, q6⟩⟩
    · have HX3 := Lib.hid (own_nil X)
      clear ho HA
      simp only [List.length_nil] at *
      go_wp2
      go_meet
      exact ⟨_, _, rfl, HX3⟩
    · clear HA
      simp only [List.length_nil] at *
      go_wp2_with (at_builtin; refine wpList_append_own _ rfl _ _ 22 rfl X.heap.size 3 i0 (.int .i64 0) 1 8 Try.underlying22 hi hz0 hz1 hz2 rfl (by decide) _ _ _ rfl ho ad 0 xc [] rfl rfl (fun j u h => by simp at h) (by simp) (by decide) (by decide) (by simp) ?_)
      intro v' w3 hown hgrow hne
      obtain ⟨g, cap, rfl⟩ := od.own_form hown (by simpa using hne)
      have HX3 := Lib.hid (own_app (l := []) (by simpa using hown) ((bl_al (Below.refl _ _) _).grown hgrow (by simp) (fun j hj => by simp [Value.ownBlock] at hj; omega)))
      clear hgrow hown hne ho
      go_wp2
      go_meet
      exact ⟨_, _, rfl, HX3⟩
    · have hmn : min (xn : Int) 30 = (xn : Int) := by omega
      have hmn2 : ¬ (30 : Int) < (xn : Int) := by omega
      have HNs := Lib.hid (nt_cells q3 q4)
      clear q4 HA
      go_wp2_with (at_builtin; refine wpList_append_own _ rfl _ _ 22 rfl X.heap.size 3 i0 (.int .i64 0) 1 8 Try.underlying22 hi hz0 hz1 hz2 rfl (by decide) _ _ _ rfl ho ⟨b, o, none⟩ _ xc (x.map (Value.int .i64)) rfl (by simp [q6]) HNs.out (by simp [Value.oneCell']) (by unfold maxLen; omega) (by omega) (by simp) ?_)
      intro v' w3 hown hgrow hne
      obtain ⟨g, cap, rfl⟩ := od.own_form hown hne
      have HX3 := Lib.hid (own_app (l := x) (g := g) (cap := cap) (by rw [q6]; simpa using hown) ((bl_al (Below.refl _ _) _).grown hgrow (by simp) (fun j hj => by simp [Value.ownBlock] at hj; omega)))
      clear hgrow hown hne ho HNs
      go_wp2
      go_meet
      exact ⟨_, _, by simp [q6], HX3⟩
    · have hmn : min (xn : Int) 30 = 30 := by omega
      have hmn2 : (30 : Int) < (xn : Int) := by omega
      have HNs := Lib.hid (nt_cells q3 q4)
      clear q4 HA
      go_wp2_with (at_builtin; refine wpList_append_own _ rfl _ _ 22 rfl X.heap.size 3 i0 (.int .i64 0) 1 8 Try.underlying22 hi hz0 hz1 hz2 rfl (by decide) _ _ _ rfl ho ⟨b, o, none⟩ _ xc (x.map (Value.int .i64)) rfl (by simp [q6]) HNs.out (by simp [Value.oneCell']) (by unfold maxLen; omega) (by omega) (by simp) ?_)
      intro v' w3 hown hgrow hne
      obtain ⟨g, cap, rfl⟩ := od.own_form hown hne
      have HX3 := Lib.hid (own_app (l := x) (g := g) (cap := cap) (by rw [q6]; simpa using hown) ((bl_al (Below.refl _ _) _).grown hgrow (by simp) (fun j hj => by simp [Value.ownBlock] at hj; omega)))
      clear hgrow hown hne ho HNs
      go_wp2
      go_meet
      exact ⟨_, _, by simp [q6], HX3⟩
  case rest =>
    obtain ⟨gx, cx, rfl, HX⟩ := hcut
    clear HA ho
    have ho2 := od.own0 wc
    have HNs := Lib.hid (od.app_src (X := wc) (b := gx) (o := 0) (l := x) (own_lt HX.out) (fun j hj => by rw [Nat.zero_add]; exact HX.out.cell j hj))
    have hcx := HX.out.cap
    go_wp2_with (at_builtin; refine wpList_append_own _ rfl _ _ 22 rfl wc.heap.size 3 i0 (.int .i64 0) 1 8 Try.underlying22 hi hz0 hz1 hz2 rfl (by decide) _ _ _ rfl ho2 ⟨gx, 0, none⟩ _ cx (x.map (Value.int .i64)) rfl (by simp) HNs.out (by simp [Value.oneCell']) (by unfold maxLen; omega) (by omega) (by simp) ?_)
    intro v' w3 hown hgrow hne
    obtain ⟨gw, cw, rfl⟩ := od.own_form hown hne
    have HB3 := Lib.hid ((bl_al (Below.refl _ _) _).grown hgrow (by simp) (fun j hj => by simp [Value.ownBlock] at hj; omega) : Below wc.heap.size wc w3)
    have Ow := Lib.hid (own_app (X := wc) (l := x) (g := gw) (cap := cw) (by simpa using hown) HB3.out)
    have Ox := Lib.hid (HX.out.keep HB3.out)
    have B3 := Lib.hid (Ox.out.2.2.2)
    clear hgrow hown hne ho2 HNs HX HB3
    have hcw := Ow.out.cap
    have BT := Lib.hid (better_any kd N' C wl vl cl x (some ⟨g1, 0, none⟩) (some ⟨g2, 0, none⟩) ca' (some ⟨gx, 0, none⟩) k1 k2 cc' cx w3 (PX.out.keep B3.out) (own_ints Ox.out) (by omega) hcx)
    have RT := Lib.hid (fun (W : World) (hW : Below w3.heap.size w3 W) => rbet_any kd N' C wl vl cl x (some ⟨g1, 0, none⟩) (some ⟨g2, 0, none⟩) ca' (some ⟨gw, 0, none⟩) k1 k2 cc' cw W ((PX.out.keep B3.out).keep hW) (own_ints (Ow.out.keep hW)) (by omega) hcw)
    have RC := Lib.hid (fun (W : World) (y : List Int) (ya : Option Addr) (yc : Nat) (hW : Below X.heap.size X W) (hy : Ints W ya y) (hl : y.length ≤ 1000) => refCost_any kd N' C wl vl cl y (some ⟨g1, 0, none⟩) (some ⟨g2, 0, none⟩) ca' ya k1 k2 cc' yc W (PX.out.keep hW) hy hl)
    have GD : Hid ((costR kd N' C wl vl cl x).2 = 0 → Gd (costR kd N' C wl vl cl) x.length (runR (costR kd N' C wl vl cl) kd x.length 50 (x, (costR kd N' C wl vl cl x).1)) ∧ (runR (costR kd N' C wl vl cl) kd x.length 50 (x, (costR kd N' C wl vl cl x).1)).2 ≤ (costR kd N' C wl vl cl x).1) := fun hc => run_gd 50 ⟨rfl, by show costR kd N' C wl vl cl x = _; rw [← hc]⟩
    obtain ⟨n, hn⟩ : ∃ n, n = x.length := ⟨_, rfl⟩
    have HN := Lib.hid hn.symm
    rw [← hn] at BT RT Ox Ow GD ⊢
    have hxn : n ≤ 30 := by omega
    clear hn
    obtain ⟨c0, c1, c2, c3, c4, c5⟩ := H6.out w3 B3.out
    go_wp2_with fail
    refine BT.out.mono ?_; rintro e w4 h
    clear c0 c1 c2 c3 c4 c5 BT
    rcases h with ⟨hc, rfl, hb4⟩ | ⟨hc, gy, cy, rfl, hy⟩
    · have B4 := Lib.hid (bl_tr B3.out hb4)
      obtain ⟨c0, c1, c2, c3, c4, c5⟩ := H6.out w4 B4.out
      have R4 := Lib.hid (RT.out w4 hb4)
      have Ox4 := Lib.hid (Ox.out.keep hb4)
      have Ow4 := Lib.hid (Ow.out.keep hb4)
      have H4 := Lib.hid hc
      have hc' : ((costR kd N' C wl vl cl x).2 != 0) = true := by simpa using hc
      clear hb4 RT Ox Ow RC GD hc
      go_wp2_with fail
      refine R4.out.mono ?_; rintro e w5 h
      rcases h with ⟨_, rfl, hb5⟩ | ⟨hc2, _⟩
      rotate_left
      · exact absurd hc2 H4.out
      have B5 := Lib.hid (bl_tr B4.out hb5)
      have Ox5 := Lib.hid (Ox4.out.keep hb5)
      have Ow5 := Lib.hid (Ow4.out.keep hb5)
      clear hb5 R4 Ox4 Ow4 c0 c1 c2 c3 c4 c5 H4
      generalize (costR kd N' C wl vl cl x).2 = ce at *
      have ces : (ce != ce) = false := by simp
      go_wp2_with fail
      refine (HF.out w5).mono ?_; rintro e w6 ⟨rfl, hb6⟩
      have B6 := Lib.hid (bl_tr B5.out hb6)
      have Ox6 := Lib.hid (Ox5.out.keep hb6)
      have Ow6 := Lib.hid (Ow5.out.keep hb6)
      clear hb6 Ox5 Ow5
      go_wp2_with fail
      refine (same_nil w6).mono ?_; rintro e w7 ⟨rfl, hb7⟩
      have B7 := Lib.hid (bl_tr B6.out hb7)
      have Ox7 := Lib.hid (Ox6.out.keep hb7)
      have Ow7 := Lib.hid (Ow6.out.keep hb7)
      clear hb7 Ox6 Ow6
      go_wp2_with fail
      refine (same_own Ox7.out Ow7.out (by omega)).mono ?_; rintro e w8 ⟨rfl, hb8⟩
      have B8 := Lib.hid (BX.out.trans ((bl_tr B7.out hb8).mono BX.out.size))
      clear hb8 Ox7 Ow7
      go_wp2
      first
        | exact ⟨rfl, B8.out⟩
        | (go_ret; exact ⟨rfl, B8.out⟩)
    · rw [HN.out] at hy ⊢
      have B4 := Lib.hid (bl_tr B3.out hy.2.2.2)
      obtain ⟨c0, c1, c2, c3, c4, c5⟩ := H6.out w4 B4.out
      have R4 := Lib.hid (RT.out w4 hy.2.2.2)
      have Ox4 := Lib.hid (Ox.out.keep hy.2.2.2)
      have Ow4 := Lib.hid (Ow.out.keep hy.2.2.2)
      have Oy4 := Lib.hid hy
      have H4 := Lib.hid hc
      have GD2 := GD.out hc
      have RX : Hid (∀ (W : World) (hW : Below X.heap.size X W) (h : od.Own X.heap.size gx n cx x X W), Calls Try.prog 14 #[.agg #[.int .i64 kd, .int .i64 N', .int .i64 C, .slice (some ⟨g1, 0, none⟩) wl.length k1, .slice (some ⟨g2, 0, none⟩) vl.length k2, .slice ca' cl.length cc'], .slice (some ⟨gx, 0, none⟩) n cx] W fun e w' => e = .returned (.tuple #[.int .i64 (costR kd N' C wl vl cl x).1, .int .i64 0]) ∧ Below W.heap.size W w') := fun W hW h => by
        have := RC.out W x (some ⟨gx, 0, none⟩) cx hW (own_ints h) (by omega)
        rw [hc, HN.out] at this
        exact this
      have RY : Hid (∀ (W : World) (B g cap : Nat) (w0 : World) (hW : Below X.heap.size X W) (h : od.Own B g n cap (runR (costR kd N' C wl vl cl) kd n 50 (x, (costR kd N' C wl vl cl x).1)).1 w0 W), Calls Try.prog 14 #[.agg #[.int .i64 kd, .int .i64 N', .int .i64 C, .slice (some ⟨g1, 0, none⟩) wl.length k1, .slice (some ⟨g2, 0, none⟩) vl.length k2, .slice ca' cl.length cc'], .slice (some ⟨g, 0, none⟩) n cap] W fun e w' => e = .returned (.tuple #[.int .i64 (runR (costR kd N' C wl vl cl) kd n 50 (x, (costR kd N' C wl vl cl x).1)).2, .int .i64 0]) ∧ Below W.heap.size W w') := fun W B g cap w0 hW h => by
        have := RC.out W _ (some ⟨g, 0, none⟩) cap hW (own_ints h) (by rw [h.1]; omega)
        rw [h.1, GD2.1.2] at this
        exact this
      have LE := Lib.hid GD2.2
      clear hy RT Ox Ow RC GD GD2 hc
      go_wp2_with fail
      refine R4.out.mono ?_; rintro e w5 h
      rcases h with ⟨hc2, _⟩ | ⟨_, gz, cz, rfl, hz⟩
      · exact absurd H4.out hc2
      rw [HN.out] at hz
      have B5 := Lib.hid (bl_tr B4.out hz.2.2.2)
      have Ox5 := Lib.hid (Ox4.out.keep hz.2.2.2)
      have Ow5 := Lib.hid (Ow4.out.keep hz.2.2.2)
      have Oy5 := Lib.hid (Oy4.out.keep hz.2.2.2)
      have Oz5 := Lib.hid hz
      clear hz R4 Ox4 Ow4 Oy4 c0 c1 c2 c3 c4 c5 H4
      generalize runR (costR kd N' C wl vl cl) kd n 50 (x, (costR kd N' C wl vl cl x).1) = rr at *
      obtain ⟨r1, r2⟩ := rr
      generalize (costR kd N' C wl vl cl x).1 = co at *
      simp only at LE RY Oy5 Oz5
      rw [HN.out]
      go_wp2_with fail
      refine (HF.out w5).mono ?_; rintro e w6 ⟨rfl, hb6⟩
      have B6 := Lib.hid (bl_tr B5.out hb6)
      have Ox6 := Lib.hid (Ox5.out.keep hb6)
      have Ow6 := Lib.hid (Ow5.out.keep hb6)
      have Oy6 := Lib.hid (Oy5.out.keep hb6)
      have Oz6 := Lib.hid (Oz5.out.keep hb6)
      clear hb6 Ox5 Ow5 Oy5 Oz5
      go_wp2_with fail
      refine (same_own Oy6.out Oz6.out (by omega)).mono ?_; rintro e w7 ⟨rfl, hb7⟩
      have B7 := Lib.hid (bl_tr B6.out hb7)
      have Ox7 := Lib.hid (Ox6.out.keep hb7)
      have Ow7 := Lib.hid (Ow6.out.keep hb7)
      have Oy7 := Lib.hid (Oy6.out.keep hb7)
      clear hb7 Ox6 Ow6 Oy6 Oz6
      go_wp2_with fail
      refine (same_own Ox7.out Ow7.out (by omega)).mono ?_; rintro e w8 ⟨rfl, hb8⟩
      have B8 := Lib.hid (bl_tr B7.out hb8)
      have Ox8 := Lib.hid (Ox7.out.keep hb8)
      have Oy8 := Lib.hid (Oy7.out.keep hb8)
      clear hb8 Ox7 Ow7 Oy7
      obtain ⟨c0, c1, c2, c3, c4, c5⟩ := H6.out w8 B8.out
      go_wp2_with fail
      refine (RX.out w8 B8.out Ox8.out).mono ?_; rintro e w9 ⟨rfl, hb9⟩
      have B9 := Lib.hid (bl_tr B8.out hb9)
      have Oy9 := Lib.hid (Oy8.out.keep hb9)
      clear hb9 Ox8 Oy8 RX c0 c1 c2 c3 c4 c5
      obtain ⟨c0, c1, c2, c3, c4, c5⟩ := H6.out w9 B9.out
      go_wp2_with fail
      refine (RY.out w9 _ gy cy _ B9.out Oy9.out).mono ?_; rintro e wz ⟨rfl, hbz⟩
      have BZ := Lib.hid (BX.out.trans ((bl_tr B9.out hbz).mono BX.out.size))
      clear hbz Oy9 RY c0 c1 c2 c3 c4 c5
      have le := LE.out
      have led : decide (r2 ≤ co) = true := decide_eq_true le
      go_wp2
      first
        | exact ⟨rfl, BZ.out⟩
        | (go_ret; exact ⟨rfl, BZ.out⟩)
end Go.Proofs.Ytaobaiifbmhegaa

/-
  kurganlaw10.GreedyRests, walked.
-/
import Derived.Test.YtaobaiifbmhegaaLb
namespace Go.Proofs.Ytaobaiifbmhegaa
open Go.RowKit
set_option linter.unusedVariables false
/-- what Better hands back, its values apart -/
def BtW (K N C : Int) (wl vl : List Int) (cl : List (List Int)) (x : List Int) (w : World) (v : Value) (ce : Int) (w' : World) : Prop :=
  ((costR K N C wl vl cl x).2 ≠ 0 ∧ v = .slice none 0 0 ∧ ce = (costR K N C wl vl cl x).2 ∧ Below w.heap.size w w') ∨
  ((costR K N C wl vl cl x).2 = 0 ∧ ce = 0 ∧ ∃ g cap, v = .slice (some ⟨g, 0, none⟩) x.length cap ∧ od.Own w.heap.size g x.length cap (runR (costR K N C wl vl cl) K x.length 50 (x, (costR K N C wl vl cl x).1)).1 w w')
theorem btw_of {K N C : Int} {wl vl : List Int} {cl : List (List Int)} {x : List Int} {X w : World} {e : Ending} {w' : World} (hb : Below X.heap.size X w) (h : BtP K N C wl vl cl x w e w') : ∃ v ce, e = .returned (.tuple #[v, .int .i64 ce]) ∧ Hid (BtW K N C wl vl cl x X v ce w') := by
  rcases h with ⟨hc, rfl, hb4⟩ | ⟨hc, g, cap, rfl, hy⟩
  · exact ⟨_, _, rfl, .inl ⟨hc, rfl, rfl, hb.trans (hb4.mono hb.size)⟩⟩
  · exact ⟨_, _, rfl, .inr ⟨hc, rfl, g, cap, rfl, hy.down hb hb.size⟩⟩
theorem arg_ints {K : Nat} {W : World} {a : Option Addr} {n c : Nat} {l : List Int} (h : kn.Arg K W a n c l) : Ints W a l ∧ l.length ≤ c ∧ c ≤ 9223372036854775807 := by
  rcases h with ⟨rfl, rfl, rfl, rfl⟩ | ⟨ad, rfl, rfl, q2, rfl⟩ | ⟨b, o, rfl, q1, q2, q3, q4, q5⟩
  · exact ⟨fun j hj => absurd hj (by simp), by simp, by omega⟩
  · exact ⟨fun j hj => absurd hj (by simp), by simp, q2⟩
  · exact ⟨fun j hj => ⟨b, o, rfl, q3, by have := q4 j hj; unfold kn.nt at this; exact this⟩, by omega, q2⟩
set_option maxRecDepth 100000 in
set_option maxHeartbeats 8000000 in
theorem greedyRests_walk (kd N C : Int) (wl vl : List Int) (cl : List (List Int)) (wa va ca : Option Addr) (wn vn cn wc vc cc : Nat) (x : List Int) (xa : Option Addr) (xn xc : Nat) (w : World) (h1 : Src w wa wn wc wl) (h2 : Src w va vn vc vl) (h3 : RSrc w ca cn cc cl) (h4 : kn.Arg 30 w xa xn xc x) :
    Calls Try.prog 6 #[.agg #[.int .i64 kd, .int .i64 N, .int .i64 C, .slice wa wn wc, .slice va vn vc, .slice ca cn cc], .slice xa xn xc] w fun e w' => e = .returned (.bool true) ∧ Below w.heap.size w w' := by
  have bA : Below w.heap.size w (w.alloc (.cells #[.int .i64 kd, .int .i64 N, .int .i64 C, .slice wa wn wc, .slice va vn vc, .slice ca cn cc] 25)) := bl_al (Below.refl _ _) _
  have HC := Lib.hid (few_any kd N C wl vl cl wa va ca wn vn cn wc vc cc _ (h1.keep bA) (h2.keep bA) (h3.keep bA))
  have HB := Lib.hid bA
  have Q0 := Lib.hid (heap_alloc_new w (.cells #[.int .i64 kd, .int .i64 N, .int .i64 C, .slice wa wn wc, .slice va vn vc, .slice ca cn cc] 25))
  have l1 : wl.length ≤ 1000 := by have := h1.1; omega
  have l2 : vl.length ≤ 1000 := by have := h2.1; omega
  have l3 : cl.length ≤ 1000 := by have := h3.1; omega
  have hx30 : x.length ≤ 30 := h4.len.1
  have HArg := Lib.hid (fun W (hb : Below w.heap.size w W) => arg_keep h4 hb)
  have HF := Lib.hid (fun W => finds_any W)
  clear h1 h2 h3 h4
  go_enter Try.func6, Try.ntmps6
  go_wp2_with fail
  refine HC.out.mono ?_; rintro e w1 ⟨N', g1, k1, g2, k2, ca', cc', rfl, hb, i1, i2, rw⟩
  have q0 := (hb.block _ (lt_hp Q0.out)).trans Q0.out
  have H3 : L3 (w.alloc (.cells #[.int .i64 kd, .int .i64 N, .int .i64 C, .slice wa wn wc, .slice va vn vc, .slice ca cn cc] 25)).heap.size w1 g1 g2 ca' wl vl cl := ⟨i1, i2, rw⟩
  have BX := Lib.hid (six_below (bl_tr HB.out hb) (Nat.le_refl w.heap.size) (.int .i64 kd) (.int .i64 N') (.int .i64 C) (.slice (some ⟨g1, 0, none⟩) wl.length k1) (.slice (some ⟨g2, 0, none⟩) vl.length k2) (.slice ca' cl.length cc'))
  have S1 := Lib.hid (six q0 (.int .i64 kd) (.int .i64 N') (.int .i64 C) (.slice (some ⟨g1, 0, none⟩) wl.length k1) (.slice (some ⟨g2, 0, none⟩) vl.length k2) (.slice ca' cl.length cc'))
  have PX := Lib.hid ((H3.other q0 (fun k hk => six_other (w := w1) hk (.int .i64 kd) (.int .i64 N') (.int .i64 C) (.slice (some ⟨g1, 0, none⟩) wl.length k1) (.slice (some ⟨g2, 0, none⟩) vl.length k2) (.slice ca' cl.length cc'))).prob l1 l2 l3)
  obtain ⟨c0, c1, c2, c3, c4, c5⟩ := box6 q0
  have cf := fr6 q0
  have hs := lt_hp q0
  clear hb i1 i2 rw q0 HC HB H3 Q0 bA
  go_upto_region 2 with fail
  clear c0 c1 c2 c3 c4 c5 cf hs
  generalize ((((((w1.setCell ⟨w.heap.size, 0, none⟩ (.int .i64 kd)).setCell ⟨w.heap.size, 1, none⟩ (.int .i64 N')).setCell ⟨w.heap.size, 2, none⟩ (.int .i64 C)).setCell ⟨w.heap.size, 3, none⟩ (.slice (some ⟨g1, 0, none⟩) wl.length k1)).setCell ⟨w.heap.size, 4, none⟩ (.slice (some ⟨g2, 0, none⟩) vl.length k2)).setCell ⟨w.heap.size, 5, none⟩ (.slice ca' cl.length cc')) = X at *
  have HA := Lib.hid (HArg.out X BX.out)
  have H6 := Lib.hid (fun (W : World) (h : Below X.heap.size X W) => box6 ((h.block _ (lt_hp S1.out)).trans S1.out))
  have BT : Hid (∀ W, Below X.heap.size X W → Calls Try.prog 16 #[.agg #[.int .i64 kd, .int .i64 N', .int .i64 C, .slice (some ⟨g1, 0, none⟩) wl.length k1, .slice (some ⟨g2, 0, none⟩) vl.length k2, .slice ca' cl.length cc'], .slice xa x.length xc] W fun e w' => ∃ v ce, e = .returned (.tuple #[v, .int .i64 ce]) ∧ Hid (BtW kd N' C wl vl cl x X v ce w')) := fun W hW =>
    (better_any kd N' C wl vl cl x (some ⟨g1, 0, none⟩) (some ⟨g2, 0, none⟩) ca' xa k1 k2 cc' xc W (PX.out.keep hW) ((arg_ints HA.out).1.keep hW) (by omega) (arg_ints HA.out).2).mono fun e w' h => btw_of hW h
  clear HArg
  have e6 := H6.out X (Below.refl _ _)
  have hsx := lt_hp S1.out
  go_cut [5, 6] from 7 (fun v5 v6 wx => ∃ ce, v6 = .int .i64 ce ∧ Hid (BtW kd N' C wl vl cl x X v5 ce wx))
  case first =>
    obtain ⟨c0, c1, c2, c3, c4, c5⟩ := e6
    have hmin := HA.out.len.2.2
    have hif : (if (30 : Int) < (xn : Int) then 30 else (xn : Int)) = (x.length : Int) := by
      rw [← hmin]
      by_cases q : (30 : Int) < (xn : Int)
      · rw [if_pos q]; omega
      · rw [if_neg q]; omega
    have SL := kn.sl_run2 30 X xa xn xc x HA.out
    have BTd := Lib.hid (BT.out X.drew (od.bl_drew _))
    clear HA BT
    obtain ⟨n, hn⟩ : ∃ n, n = x.length := ⟨_, rfl⟩
    rw [← hn] at hmin hif SL BTd
    clear hn
    go_region_with (go_at_call 16; refine BTd.out.mono ?_; rintro e w2 ⟨v, ce, rfl, hv⟩)
    all_goals
      go_wp2_with fail
      go_meet
      exact ⟨ce, rfl, hv⟩
  case rest =>
    obtain ⟨ce, rfl, HW⟩ := hcut
    clear HA BT e6
    rcases HW.out with ⟨hc, rfl, hce, hb4⟩ | ⟨hc, rfl, gy, cy, rfl, hy⟩
    · have B4 := Lib.hid hb4
      have hc' : (ce != 0) = true := by rw [hce]; simpa using hc
      clear hc hce hb4 HW
      go_wp2_with fail
      refine (HF.out wc).mono ?_; rintro e w5 ⟨rfl, hb5⟩
      have B5 := Lib.hid (bl_tr B4.out hb5)
      clear hb5
      go_wp2_with fail
      refine (HF.out w5).mono ?_; rintro e w6 ⟨rfl, hb6⟩
      have B6 := Lib.hid (BX.out.trans ((bl_tr B5.out hb6).mono BX.out.size))
      clear hb6
      go_wp2
      first
        | exact ⟨rfl, B6.out⟩
        | (go_ret; exact ⟨rfl, B6.out⟩)
    · have hl64 := cost_len hc
      have GR : Hid (∀ y : List Int, (costR kd N' C wl vl cl y).2 = 0 → (costR kd N' C wl vl cl (runR (costR kd N' C wl vl cl) kd y.length 50 (y, (costR kd N' C wl vl cl y).1)).1).2 = 0) := fun y hy => by
        have := (run_gd (K := kd) (f := costR kd N' C wl vl cl) (n := y.length) 50 (p := (y, (costR kd N' C wl vl cl y).1)) ⟨rfl, by show costR kd N' C wl vl cl y = _; rw [← hy]⟩).1.2
        rw [this]
      have GY := Lib.hid (GR.out x hc)
      have B4 := Lib.hid hy.2.2.2
      have OY := Lib.hid hy
      obtain ⟨n, hn⟩ : ∃ n, n = x.length := ⟨_, rfl⟩
      rw [← hn] at OY GY ⊢ hl64
      clear hc hy HW
      generalize (runR (costR kd N' C wl vl cl) kd n 50 (x, (costR kd N' C wl vl cl x).1)).1 = y0 at *
      clear hn hx30
      obtain ⟨c0, c1, c2, c3, c4, c5⟩ := H6.out wc B4.out
      go_wp2_with fail
      refine (HF.out wc).mono ?_; rintro e w5 ⟨rfl, hb5⟩
      have B5 := Lib.hid (bl_tr B4.out hb5)
      have OY5 := Lib.hid (OY.out.keep hb5)
      clear hb5 OY c0 c1 c2 c3 c4 c5
      obtain ⟨c0, c1, c2, c3, c4, c5⟩ := H6.out w5 B5.out
      by_cases h5 : 5 < N'
      · go_wp2_with fail
        refine (HF.out w5).mono ?_; rintro e w6 ⟨rfl, hb6⟩
        have B6 := Lib.hid (BX.out.trans ((bl_tr B5.out hb6).mono BX.out.size))
        clear hb6
        go_wp2
        first
          | exact ⟨rfl, B6.out⟩
          | (go_ret; exact ⟨rfl, B6.out⟩)
      · have BT : Hid (∀ (W : World) (y : List Int) (g cap : Nat), od.Own X.heap.size g n cap y X W → (costR kd N' C wl vl cl y).2 = 0 → Calls Try.prog 16 #[.agg #[.int .i64 kd, .int .i64 N', .int .i64 C, .slice (some ⟨g1, 0, none⟩) wl.length k1, .slice (some ⟨g2, 0, none⟩) vl.length k2, .slice ca' cl.length cc'], .slice (some ⟨g, 0, none⟩) n cap] W fun e w' => ∃ g' cap' z, e = .returned (.tuple #[.slice (some ⟨g', 0, none⟩) n cap', .int .i64 0]) ∧ Hid ((costR kd N' C wl vl cl z).2 = 0) ∧ Hid (od.Own X.heap.size g' n cap' z X w') ∧ Hid (od.Own X.heap.size g n cap y X w')) := fun W y g cap hy hc => by
          have b := better_any kd N' C wl vl cl y (some ⟨g1, 0, none⟩) (some ⟨g2, 0, none⟩) ca' (some ⟨g, 0, none⟩) k1 k2 cc' cap W (PX.out.keep hy.2.2.2) (own_ints hy) (by rw [hy.1]; omega) (by rw [hy.1]; exact hy.cap)
          rw [hy.1] at b
          refine b.mono fun e w' h => ?_
          rcases h with ⟨h, _⟩ | ⟨_, g', cap', rfl, ho⟩
          · exact absurd hc h
          · have gr := GR.out y hc
            rw [hy.1] at gr ho ⊢
            exact ⟨g', cap', _, rfl, gr, ho.down hy.2.2.2 hy.2.2.2.size, hy.keep ho.2.2.2⟩
        have SM : Hid (∀ (W : World) (y z : List Int) (g g' cap cap' : Nat), od.Own X.heap.size g n cap y X W → od.Own X.heap.size g' n cap' z X W → Calls Try.prog 13 #[.slice (some ⟨g', 0, none⟩) n cap', .slice (some ⟨g, 0, none⟩) n cap] W fun e w' => e = .returned (.bool (decide (z = y))) ∧ Below W.heap.size W w') := fun W y z g g' cap cap' h1 h2 => by
          have := od.same_any z y (by rw [h2.1]; omega) (by rw [h1.1]; omega) _ _ cap' cap W h2.ints h1.ints
          rw [h1.1, h2.1] at this
          exact this
        clear GR
        go_wp2
        go_loopw [5, 7] (fun v5 i wr => ∃ (k g cap : Nat) (y : List Int), k ≤ 200 ∧ i = .int .i64 k ∧ v5 = .slice (some ⟨g, 0, none⟩) n cap ∧ Hid ((costR kd N' C wl vl cl y).2 = 0) ∧ Hid (od.Own X.heap.size g n cap y X wr)) (fun _ i _ => 200 - (intOf i).toNat)
        case atStart => exact ⟨0, gy, cy, y0, by omega, rfl, rfl, GY, OY5⟩
        case round =>
          clear GY OY5 c0 c1 c2 c3 c4 c5
          obtain ⟨k, g, cap, y, hk, rfl, rfl, HE, HO⟩ := hrel
          by_cases hlt : k < 200
          · have q1 : (k : Int) < 200 := by omega
            have B7 := Lib.hid (HO.out.2.2.2)
            obtain ⟨c0, c1, c2, c3, c4, c5⟩ := H6.out wr B7.out
            have BC := Lib.hid (BT.out wr y g cap HO.out HE.out)
            clear HO B7
            go_wp2_with fail
            refine BC.out.mono ?_; rintro e w7 ⟨g', cap', z, rfl, hz, hz1, hz2⟩
            have SC := Lib.hid (SM.out w7 y z g g' cap cap' hz2.out hz1.out)
            clear BC c0 c1 c2 c3 c4 c5 hz2
            by_cases hyz : z = y
            · rw [decide_eq_true hyz] at SC
              clear hyz
              go_wp2_with fail
              refine SC.out.mono ?_; rintro e w8 ⟨rfl, hb8⟩
              have B8 := Lib.hid (BX.out.trans ((bl_tr hz1.out.2.2.2 hb8).mono BX.out.size))
              clear hb8
              go_wp2
              first
                | exact ⟨rfl, B8.out⟩
                | (go_ret; exact ⟨rfl, B8.out⟩)
            · rw [decide_eq_false hyz] at SC
              clear hyz
              go_wp2_with fail
              refine SC.out.mono ?_; rintro e w8 ⟨rfl, hb8⟩
              have O8 := Lib.hid (hz1.out.keep hb8)
              clear hb8 SC hz1
              go_wp2
              go_roundw
              case rel => exact ⟨k + 1, g', cap', z, by omega, by go_num, rfl, hz, O8⟩
              case measure => simp [intOf]; omega
          · have q1 : ¬ (k : Int) < 200 := by omega
            have B8 := Lib.hid (BX.out.trans (HO.out.2.2.2.mono BX.out.size))
            clear HO
            go_wp2
            first
              | exact ⟨rfl, B8.out⟩
              | (go_ret; exact ⟨rfl, B8.out⟩)
              | (go_at_K; go_wp2; exact ⟨rfl, B8.out⟩)
end Go.Proofs.Ytaobaiifbmhegaa

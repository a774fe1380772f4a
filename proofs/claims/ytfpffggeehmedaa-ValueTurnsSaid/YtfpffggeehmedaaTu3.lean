/-
  kurganlaw08.ValueTurns at a tour, walked.
-/
import Derived.Test.YtfpffggeehmedaaTuL
namespace Go.Proofs.Ytfpffggeehmedaa
open Go.RowKit
open kc (IO RwsC)
set_option linter.unusedVariables false
set_option maxRecDepth 100000 in
set_option maxHeartbeats 16000000 in
theorem turn_tour (n : Nat) (C : Int) (wl vl : List Int) (cl : List (List Int)) (wa va ca : Option Addr) (wn vn cn wc vc cc : Nat) (x : List Int) (xa : Option Addr) (xn xc : Nat) (w : World) (h1 : Src w wa wn wc wl) (h2 : Src w va vn vc vl) (h3 : RSrc w ca cn cc cl) (h4 : Src w xa xn xc x) (hF : Fm 3 n C wl vl cl) (hx : okx 3 n x) :
    Calls Try.prog 6 #[.agg #[.int .i64 3, .int .i64 n, .int .i64 C, .slice wa wn wc, .slice va vn vc, .slice ca cn cc], .slice xa xn xc] w fun e w' => e = .returned (.bool true) ∧ Below w.heap.size w w' := by
  obtain ⟨i0, hi, hz0, hz1, hz2⟩ := info_parts info3
  have bA : Below w.heap.size w (w.alloc (.cells #[.int .i64 3, .int .i64 n, .int .i64 C, .slice wa wn wc, .slice va vn vc, .slice ca cn cc] 25)) := bl_al (Below.refl _ _) _
  have HC := Lib.hid (kc.refcopy_any 3 n C wl vl cl wa va ca wn vn cn wc vc cc _ (h1.keep bA) (h2.keep bA) (h3.keep bA))
  have HB := Lib.hid bA
  have l1 : wl.length ≤ 70 := by have := h1.1; omega
  have l2 : vl.length ≤ 70 := by have := h2.1; omega
  have l3 := (rsrc_len h3).1
  have HL3 := Lib.hid (rsrc_len h3).2
  have hx70 : x.length ≤ 70 := by have := h4.1; omega
  have HV := Lib.hid (fun W => vals_walk W)
  have HArg := Lib.hid (fun W (hb : Below w.heap.size w W) => arg_of (h4.keep hb))
  have HCo := Lib.hid (fun W (a b c xa : Option Addr) (k1 k2 k3 xc : Nat) (h : Prob W wl vl cl a b c) (hI : Ints W xa x) => cost_any 3 n C wl vl cl x a b c xa k1 k2 k3 xc W h hI (by omega))
  have n1 := hF.n1
  obtain ⟨a1, a2, a3, a4, a5, a6⟩ := hF.rs (by decide)
  have HXL := Lib.hid (show x.length = n by have := hx.1; omega)
  have HFR := Lib.hid (show cl.length = n ∧ (∀ a, a < n → (cl[a]?.getD []).length = n) ∧ 1 ≤ n ∧ n ≤ 24 from ⟨a5, fun a ha => (a6 a ha).1, n1, a1⟩)
  have HW := Lib.hid (And.intro a3 a4)
  have HT := Lib.hid (tour_turn hF hx)
  have he : (costR 3 n C wl vl cl x).2 = 0 := by rw [cost_ways hF.chk hx]
  have HCT := Lib.hid (fun W (a b c xa : Option Addr) (k1 k2 k3 xc : Nat) (y : List Int) (hy : y.length ≤ 1000) (h : Prob W wl vl (tab n (mir cl)) a b c) (hI : Ints W xa y) => cost_any 3 n C wl vl (tab n (mir cl)) y a b c xa k1 k2 k3 xc W h hI hy)
  rw [tab_len] at HCT
  generalize hcr : costR 3 n C wl vl cl x = cr at *
  obtain ⟨co, er⟩ := cr
  clear hcr
  simp only at HCo he
  subst he
  generalize hcs : (costR 3 n C wl vl (tab n (mir cl)) x).1 = ct at HT
  have HCS := Lib.hid hcs
  clear hcs a2 a3 a4 a5 a6 hF hx
  clear h1 h2 h3 bA h4
  go_enter Try.func6, Try.ntmps6
  go_wp2_with fail
  refine HC.out.mono ?_; rintro e w1 ⟨g1, k1, g2, k2, ca', cc', rfl, hb, i1, i2, rw⟩
  have q0 : w1.heap[w.heap.size]? = some (.cells #[.int .i64 3, .int .i64 n, .int .i64 C, .slice wa wn wc, .slice va vn vc, .slice ca cn cc] 25 (0, 0)) := (hb.block _ (by simp)).trans (heap_alloc_new w _)
  have HP := Lib.hid (store_tu (K := 3) (N := n) (C := C) (k1 := k1) (k2 := k2) (cc := cc') (Nat.le_refl _) q0 (bl_tr HB.out hb) i1 i2 rw (by omega) (by omega) (by omega) _ rfl)
  have UMX := Lib.hid (um_start (wl := wl.length) (vl := vl.length) (w := w) (K := 3) (C := C) (g1 := g1) (g2 := g2) (k1 := k1) (k2 := k2) HFR.out q0 rw rfl)
  obtain ⟨c0, c1, c2, c3, c4, c5⟩ := box6 q0
  have cf := fr6 q0
  have hs := lt_hp q0
  clear hb i1 i2 rw q0 HC HB
  go_upto_region 2 with fail
  clear c0 c1 c2 c3 c4 c5 cf hs
  generalize ((((((w1.setCell ⟨w.heap.size, 0, none⟩ (.int .i64 3)).setCell ⟨w.heap.size, 1, none⟩ (.int .i64 n)).setCell ⟨w.heap.size, 2, none⟩ (.int .i64 C)).setCell ⟨w.heap.size, 3, none⟩ (.slice (some ⟨g1, 0, none⟩) wl.length k1)).setCell ⟨w.heap.size, 4, none⟩ (.slice (some ⟨g2, 0, none⟩) vl.length k2)).setCell ⟨w.heap.size, 5, none⟩ (.slice ca' cl.length cc')) = X at HP UMX ⊢
  have ho := own0 X
  have HA := Lib.hid (HArg.out X HP.out.2.2.1)
  clear HArg
  go_cut [1] from 18 (fun v1 wx => ∃ gx cx, v1 = .slice (some ⟨gx, 0, none⟩) x.length cx ∧ Hid (Below X.heap.size X wx) ∧ Hid (IO X.heap.size wx gx cx x))
  case first =>
    clear HCo HV UMX HCT HT HCS HW HFR HL3
    rcases HA.out with ⟨rfl, rfl, rfl, rfl⟩ | ⟨ad, rfl, rfl, q2, rfl⟩ | ⟨b, o, rfl, q1, q2, q3, q4, ⟨q5, q6⟩ | ⟨q5, q6⟩⟩
    · have HX3 : Hid (IO X.heap.size (X.alloc (.cells #[] 3)) X.heap.size 0 []) := Lib.hid ⟨nil_own X, by simp, by simp, Nat.le_refl _⟩
      have BX := Lib.hid (bl_al (Below.refl X.heap.size X) (.cells #[] 3))
      clear ho HA HP
      simp only [List.length_nil] at *
      go_wp2
      go_meet
      exact ⟨_, _, rfl, BX, HX3⟩
    · clear HA HP
      simp only [List.length_nil] at *
      go_wp2_with (at_builtin; refine wpList_append_own _ rfl _ _ 22 rfl X.heap.size 3 i0 (.int .i64 0) 1 8 Try.underlying22 hi hz0 hz1 hz2 rfl (by decide) _ _ _ rfl ho ad 0 xc [] rfl rfl (fun j u h => by simp at h) (by simp) (by decide) (by decide) (by simp) ?_)
      intro v' w3 hown hgrow hne
      obtain ⟨g, cap, rfl⟩ := own_form hown (by simpa using hne)
      have BX := Lib.hid ((bl_al (Below.refl _ _) _).grown hgrow (by simp) (fun j hj => by simp [Value.ownBlock] at hj; omega))
      have HX3 := Lib.hid (kc.own_io (B := X.heap.size) (l := []) (Nat.le_refl _) hown)
      clear hgrow hown hne ho
      go_wp2
      go_meet
      exact ⟨_, _, rfl, BX, HX3⟩
    · have hmn : min (xn : Int) 70 = (xn : Int) := by omega
      have HNs := Lib.hid (app_src q3 q4)
      clear q4 HA HP
      go_wp2_with (at_builtin; refine wpList_append_own _ rfl _ _ 22 rfl X.heap.size 3 i0 (.int .i64 0) 1 8 Try.underlying22 hi hz0 hz1 hz2 rfl (by decide) _ _ _ rfl ho ⟨b, o, none⟩ _ xc (x.map (Value.int .i64)) rfl (by simp [q6]) HNs.out (by simp [Value.oneCell']) (by unfold maxLen; omega) (by omega) (by simp) ?_)
      intro v' w3 hown hgrow hne
      obtain ⟨g, cap, rfl⟩ := own_form hown hne
      have BX := Lib.hid ((bl_al (Below.refl _ _) _).grown hgrow (by simp) (fun j hj => by simp [Value.ownBlock] at hj; omega))
      have HX3 := Lib.hid (kc.own_io (B := X.heap.size) (l := x) (cap := cap) (g := g) (Nat.le_refl _) (by rw [q6]; simpa using hown))
      clear hgrow hown hne ho HNs
      go_wp2
      go_meet
      exact ⟨_, _, by simp [q6], BX, HX3⟩
    · have hmn : min (xn : Int) 70 = 70 := by omega
      have HNs := Lib.hid (app_src q3 q4)
      clear q4 HA HP
      go_wp2_with (at_builtin; refine wpList_append_own _ rfl _ _ 22 rfl X.heap.size 3 i0 (.int .i64 0) 1 8 Try.underlying22 hi hz0 hz1 hz2 rfl (by decide) _ _ _ rfl ho ⟨b, o, none⟩ _ xc (x.map (Value.int .i64)) rfl (by simp [q6]) HNs.out (by simp [Value.oneCell']) (by unfold maxLen; omega) (by omega) (by simp) ?_)
      intro v' w3 hown hgrow hne
      obtain ⟨g, cap, rfl⟩ := own_form hown hne
      have BX := Lib.hid ((bl_al (Below.refl _ _) _).grown hgrow (by simp) (fun j hj => by simp [Value.ownBlock] at hj; omega))
      have HX3 := Lib.hid (kc.own_io (B := X.heap.size) (l := x) (cap := cap) (g := g) (Nat.le_refl _) (by rw [q6]; simpa using hown))
      clear hgrow hown hne ho HNs
      go_wp2
      go_meet
      exact ⟨_, _, by simp [q6], BX, HX3⟩
  case rest =>
    obtain ⟨gx, cx, rfl, BX, HX⟩ := hcut
    clear HA ho
    obtain ⟨c0, c1, c2, c3, c4, c5⟩ := box6_keep BX.out HP.out.1
    go_wp2_with fail
    refine (HCo.out wc _ _ _ _ _ _ _ _ (HP.out.2.1.keep BX.out) HX.out.1.ints).mono ?_; rintro e w4 ⟨rfl, hb⟩
    have X4 := Lib.hid (HX.out.keep hb)
    have B4 := Lib.hid (bl_tr BX.out hb)
    clear c0 c1 c2 c3 c4 c5 hb BX HX
    obtain ⟨c0, c1, c2, c3, c4, c5⟩ := box6_keep B4.out HP.out.1
    go_wp2_with fail
    refine (HV.out _).mono ?_; rintro e w5 ⟨rfl, hb⟩
    have X5 := Lib.hid (X4.out.keep hb)
    have B5 := Lib.hid (bl_tr B4.out hb)
    clear c0 c1 c2 c3 c4 c5 hb B4 X4
    obtain ⟨c0, c1, c2, c3, c4, c5⟩ := box6_keep B5.out HP.out.1
    obtain ⟨gc, gs, cj, rfl, U0, hBg⟩ := UMX.out
    have hgx : ∀ a, a < n → gx ≠ gs a := fun a ha => by
      obtain ⟨cur, h1, _⟩ := U0.rows a ha
      have h2 := lt_hp h1
      have h3 := X5.out.2.2.2
      omega
    have U5 := Lib.hid ((U0.keep B5.out).congr (Mx' := Mt cl 0 0) (fun a b _ _ => by unfold Mt; rw [if_neg (by omega)]))
    have BW := Lib.hid (HP.out.2.2.1.trans (B5.out.mono HP.out.2.2.1.size))
    have XI := Lib.hid X5.out.1
    have HL : Hid (∀ (wr : World) (k : Nat) (v : Value), Below w.heap.size w wr → k < n → ∀ j, Below w.heap.size w (wr.setCell ⟨gs k, j, none⟩ v)) := Lib.hid fun wr k v hb hk j => hb.setCell (p := ⟨gs k, j, none⟩) (Nat.le_trans (by simp) (hBg k hk)) v
    have HGX := Lib.hid hgx
    clear U0 UMX hBg hgx X5 B5 HCo
    go_wp2
    clear c0 c1 c2 c3 c4 c5
    go_loopw [12] (fun av wr => ∃ a : Nat, a ≤ n ∧ av = .int .i64 (a : Int) ∧ Hid (UM w.heap.size gc gs cj n 3 C (.slice (some ⟨g1, 0, none⟩) wl.length k1) (.slice (some ⟨g2, 0, none⟩) vl.length k2) cc' (Mt cl (a) (0)) wr) ∧ Hid (IntsO wr gx x) ∧ Hid (Below w.heap.size w wr)) (fun av _ => n - (intOf av).toNat)
    case atStart => exact ⟨0, by omega, rfl, U5, XI, BW⟩
    case round =>
      clear U5 XI BW
      obtain ⟨a, ha, rfl, HU, HI, HB⟩ := hrel
      obtain ⟨c0, c1, c2, c3, c4, c5⟩ := box6 HU.out.box
      by_cases hal : a < n
      · have q1 : (a : Int) < (n : Int) := by omega
        clear ha
        go_wp2
        clear c0 c1 c2 c3 c4 c5
        go_loopw [13] (fun bv wr2 => ∃ b : Nat, b ≤ a ∧ bv = .int .i64 (b : Int) ∧ Hid (UM w.heap.size gc gs cj n 3 C (.slice (some ⟨g1, 0, none⟩) wl.length k1) (.slice (some ⟨g2, 0, none⟩) vl.length k2) cc' (Mt cl (a) (b)) wr2) ∧ Hid (IntsO wr2 gx x) ∧ Hid (Below w.heap.size w wr2)) (fun bv _ => a - (intOf bv).toNat)
        case atStart => exact ⟨0, by omega, rfl, HU, HI, HB⟩
        case round =>
          clear HU HI HB
          obtain ⟨b, hb, rfl, HU2, HI2, HB2⟩ := hrel
          by_cases hba : b < a
          · have q3 : (b : Int) < (a : Int) := by omega
            have q4 : (b : Int) < (n : Int) := by omega
            have hbn : b < n := by omega
            obtain ⟨y, hy⟩ : ∃ y, y = (cl[b]?.getD [])[a]?.getD 0 := ⟨_, rfl⟩
            have hM : Mt cl a b b a = y := by unfold Mt; rw [if_neg (by omega), hy]
            have HXX := Lib.hid (And.intro hy hM)
            clear hy hM
            have Ud := Lib.hid HU2.out.drew
            have U8 := Lib.hid (Ud.out.set hal hbn y)
            have d5 := (box6 Ud.out.box).2.2.2.2.2
            have da := Ud.out.cells.1 a hal
            have db := Ud.out.cells.1 b hbn
            have dx := (Ud.out.cells.2 b a hbn hal).1
            have c6 := (Ud.out.cells.2 a b hal hbn).1
            have f6 := (Ud.out.cells.2 a b hal hbn).2
            rw [HXX.out.2] at dx
            have g5 := (box6 U8.out.box).2.2.2.2.2
            have ga := U8.out.cells.1 a hal
            have gb := U8.out.cells.1 b hbn
            have gx' := (U8.out.cells.2 b a hbn hal).1
            have hx2 : (if b = a ∧ a = b then y else Mt cl a b b a) = y := by rw [if_neg (by omega)]; exact HXX.out.2
            rw [hx2] at gx'
            have U9 := Lib.hid (U8.out.congr (Mx' := Mt cl a (b + 1)) (fun i j _ _ => by
              unfold Mt
              by_cases c : i = a ∧ j = b
              · rw [if_pos c, if_pos ⟨by omega, by omega⟩, HXX.out.1, c.1, c.2]
              · rw [if_neg c]
                by_cases c2 : j < i ∧ (i < a ∨ (i = a ∧ j < b))
                · rw [if_pos c2, if_pos ⟨c2.1, by omega⟩]
                · rw [if_neg c2, if_neg (by omega)]))
            have B9 := Lib.hid (HL.out _ a (.int .i64 y) (show Below w.heap.size w wr.drew from HB2.out.drew) hal b)
            have I9 : Hid (IntsO (wr.drew.setCell ⟨gs a, b, none⟩ (.int .i64 y)) gx x) := Lib.hid ((show IntsO wr.drew gx x from HI2.out).same (heap_setCell_other wr.drew ⟨gs a, b, none⟩ gx _ (HGX.out a hal)))
            clear hx2 U8 Ud HU2 HB2 HI2
            go_wp2
            go_region_held3 (fun w' => w'.cell? ⟨w.heap.size, 5, none⟩ = some (.slice (some ⟨gc, 0, none⟩) n cc') ∧ w'.cell? ⟨gc, a, none⟩ = some (.slice (some ⟨gs a, 0, none⟩) n (cj a)) ∧ w'.cell? ⟨gc, b, none⟩ = some (.slice (some ⟨gs b, 0, none⟩) n (cj b)) ∧ w'.cell? ⟨gs b, a, none⟩ = some (.int .i64 y)) (first | exact ⟨d5, da, db, dx⟩ | exact ⟨g5, ga, gb, gx'⟩)
              (fail)
            clear d5 da db dx c6 f6 g5 ga gb gx'
            go_wp2
            go_roundw
            case rel => exact ⟨b + 1, by omega, by go_num, U9, I9, B9⟩
            case measure => simp [intOf]; omega
          · obtain rfl : b = a := by omega
            have q3 : ¬ (b : Int) < (b : Int) := by omega
            have U9 := Lib.hid (HU2.out.congr (Mx' := Mt cl (b + 1) 0) (fun i j hi hj => by
              unfold Mt
              by_cases c2 : j < i ∧ (i < b ∨ (i = b ∧ j < b))
              · rw [if_pos c2, if_pos ⟨c2.1, by omega⟩]
              · rw [if_neg c2, if_neg (by omega)]))
            clear HU2
            go_wp2
            go_roundw
            case rel => exact ⟨b + 1, by omega, by go_num, U9, HI2, HB2⟩
            case measure => simp [intOf]; omega
      · obtain rfl : a = n := by omega
        have q1 : ¬ (a : Int) < (a : Int) := by omega
        have U9 := Lib.hid (HU.out.congr (Mx' := mir cl) (fun i j hi hj => by
          unfold Mt mir
          by_cases c2 : i ≤ j
          · rw [if_pos c2, if_neg (by omega)]
          · rw [if_neg c2, if_pos ⟨by omega, by omega⟩]))
        have nilI : ∀ (W : World) (p : Option Addr) (l : List Int), l = [] → Ints W p l := fun W p l h j hj => by rw [h] at hj; simp at hj
        have HPr := Lib.hid (fun W (hb : Below wr.heap.size wr W) => show Prob W wl vl (tab a (mir cl)) (some ⟨g1, 0, none⟩) (some ⟨g2, 0, none⟩) (some ⟨gc, 0, none⟩) from ⟨nilI _ _ _ HW.out.1, nilI _ _ _ HW.out.2, (U9.out.keep hb).rws, by rw [HW.out.1]; simp, by rw [HW.out.2]; simp, by rw [tab_len]; omega⟩)
        have HC1 := Lib.hid (HCT.out wr _ _ _ _ k1 k2 cc' cx x (by have := HXL.out; omega) (HPr.out wr (Below.refl _ _)) HI.out.ints)
        rw [HCS.out] at HC1
        clear HU nilI
        go_wp2_with fail
        refine HC1.out.mono ?_; rintro e w6 ⟨rfl, hb6⟩
        have B6 := Lib.hid hb6
        have I6 := Lib.hid (HI.out.keep hb6)
        clear c0 c1 c2 c3 c4 c5 hb6 HC1
        obtain ⟨c0, c1, c2, c3, c4, c5⟩ := box6 (U9.out.keep B6.out).box
        have O0 := Lib.hid (World.ownsRow_lit w6 (base := w6.heap.size) (e := 3) (size := 1) #[.int .i64 0] 1 (Nat.le_refl _) (by decide) (by decide))
        have S0 := Lib.hid (bl_al (Below.refl w6.heap.size w6) (.cells #[.int .i64 0] 3))
        obtain ⟨d0, d1, d2, d3, d4, d5⟩ := box6 ((U9.out.keep B6.out).keep S0.out).box
        go_wp2
        clear d0 d1 d2 d3 d4 d5
        clear c0 c1 c2 c3 c4 c5
        go_loopw [14, 15] (fun yv kv wr3 => ∃ k yg yc m : Nat, k < a ∧ m + k = a ∧ yv = .slice (some ⟨yg, 0, none⟩) m yc ∧ kv = .int .i64 (k : Int) ∧ Hid (wr3.ownsRow w6.heap.size 3 1 (.slice (some ⟨yg, 0, none⟩) m yc) m ((0 :: (x.drop (k + 1)).reverse).map (Value.int .i64))) ∧ Hid (Below w6.heap.size w6 wr3)) (fun _ kv _ => (intOf kv).toNat)
        case atStart => exact ⟨a - 1, w6.heap.size, 1, 1, by omega, by omega, rfl, by go_num, by rw [show a - 1 + 1 = x.length by have := HXL.out; omega, List.drop_length]; exact O0, S0⟩
        case round =>
          clear O0 S0
          obtain ⟨k, yg, yc, m, hk, hm, rfl, rfl, HO, HS⟩ := hrel
          by_cases h0 : 0 < k
          · obtain ⟨k', rfl⟩ : ∃ k', k = k' + 1 := ⟨k - 1, by omega⟩
            have p1 : (0 : Int) < ((k' + 1 : Nat) : Int) := by omega
            have hkx : k' + 1 < x.length := by have := HXL.out; omega
            obtain ⟨y, hy⟩ : ∃ y, y = x[k' + 1]?.getD 0 := ⟨_, rfl⟩
            obtain ⟨cur, e1, e2⟩ := I6.out.keep HS.out
            have cxk : wr.cell? ⟨gx, k' + 1, none⟩ = some (.int .i64 y) := by rw [cell_of_row _ _ _ _ _ _ e1, hy]; exact e2 _ hkx
            have hss := HS.out.size
            have hml : m ≤ 24 := by omega
            have HY := Lib.hid hy
            clear e1 e2 hy
            go_wp2_with (at_builtin; refine wpList_append_lies _ rfl _ _ 22 rfl w6.heap.size 3 i0 (.int .i64 0) 1 8 Try.underlying22 hi hz0 hz1 hz2 rfl (by decide) _ m _ rfl (HO.out.alloc _) ⟨wr.heap.size, 0, none⟩ 1 1 [.int .i64 y] rfl rfl (cell_one_new _ _ _) (by simp [Value.oneCell']) (by decide) (by unfold maxLen; omega) (by omega) (by simp; omega) _ rfl ?_)
            intro g cap w7 hown hgrow hat hlt
            have HO2 : Hid (w7.ownsRow w6.heap.size 3 1 (.slice (some ⟨g, 0, none⟩) (m + 1) cap) (m + 1) ((0 :: (x.drop (k' + 1)).reverse).map (Value.int .i64))) := Lib.hid (by
              rw [drop_get hkx, List.reverse_cons, ← HY.out]
              simpa using hown)
            have HS2 := Lib.hid (((HS.out.alloc HS.out.size _).grown hgrow (by simp; omega) (fun j hj => (HO.out.lt j hj).1)))
            clear hown hgrow hat hlt HO HS cxk
            go_wp2
            go_roundw
            case rel => exact ⟨k', g, cap, m + 1, by omega, by omega, rfl, by go_num, HO2, HS2⟩
            case measure => simp [intOf]
          · obtain rfl : k = 0 := by omega
            have p1 : ¬ (0 : Int) < ((0 : Nat) : Int) := by omega
            have hyl : (0 :: (x.drop 1).reverse).length = m := by have := HXL.out; simp; omega
            have D7 := Lib.hid (bl_tr B6.out HS.out)
            have HC2 := Lib.hid (HCT.out wr _ _ _ (some ⟨yg, 0, none⟩) k1 k2 cc' yc (0 :: (x.drop 1).reverse) (by omega) (HPr.out wr D7.out) (ints_own hyl HO.out).ints)
            rw [HT.out, hyl] at HC2
            obtain ⟨c0, c1, c2, c3, c4, c5⟩ := box6 (U9.out.keep D7.out).box
            clear hyl HO
            go_wp2_with fail
            refine HC2.out.mono ?_; rintro e w8 ⟨rfl, hb8⟩
            have BZ := Lib.hid (HB.out.trans ((bl_tr D7.out hb8).mono HB.out.size))
            clear hb8 HC2 c0 c1 c2 c3 c4 c5
            go_wp2
            go_ret
            exact ⟨by simp, BZ.out⟩
end Go.Proofs.Ytfpffggeehmedaa

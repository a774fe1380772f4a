/-
  kurgantop.KurganRows, walked: an assignment in form.
-/
import Derived.Test.YtaobaiifbmhegaaKr
namespace Go.Proofs.Ytaobaiifbmhegaa
open Go.RowKit
set_option linter.unusedVariables false
set_option maxRecDepth 100000 in
set_option maxHeartbeats 8000000 in
theorem krows_ok (n : Nat) (C : Int) (wl vl : List Int) (cl : List (List Int)) (wa va ca : Option Addr) (wc vc cc : Nat) (rank : Int) (x : List Int) (xa : Option Addr) (xn xc : Nat) (w : World) (h1 : Ints w wa wl) (h2 : Ints w va vl) (h3 : RwF w ca cl) (h4 : kn.Arg 20 w xa xn xc x) (hc : chk 2 n C wl vl cl = 0) (h8 : n ≤ 8) :
    Calls Try.prog 8 #[.agg #[.int .i64 2, .int .i64 (n : Int), .int .i64 C, .slice wa wl.length wc, .slice va vl.length vc, .slice ca cl.length cc], .int .i64 rank, .slice xa xn xc] w fun e w' => e = .returned (.bool true) ∧ Below w.heap.size w w' := by
  obtain ⟨i0, hi, hz0, hz1, hz2⟩ := info_parts info3
  have bA : Below w.heap.size w (w.alloc (.cells #[.int .i64 2, .int .i64 (n : Int), .int .i64 C, .slice wa wl.length wc, .slice va vl.length vc, .slice ca cl.length cc] 25)) := bl_al (Below.refl _ _) _
  have Q0 := Lib.hid (heap_alloc_new w (.cells #[.int .i64 2, .int .i64 (n : Int), .int .i64 C, .slice wa wl.length wc, .slice va vl.length vc, .slice ca cl.length cc] 25))
  have HS := Lib.hid (fun W => sd.stands_any W)
  have HC := Lib.hid (fun (W : World) (hb : Below w.heap.size w W) => check_raw 2 (n : Int) C wl vl cl wa va ca wc vc cc W (h1.keep hb) (h2.keep hb) (h3.keep hb))
  have BA := Lib.hid bA
  have PW := Lib.hid (raw_prob hc h1 h2 h3)
  have HCk := Lib.hid hc
  have HXA := Lib.hid h4
  have hn1 : 1 ≤ n := by have := (chk_zero hc).1; omega
  have n8 : ((n : Int) ≤ 8) := by omega
  rw [hc] at HC
  clear h1 h2 h3 h4 bA hc
  go_enter Try.func8, Try.ntmps8
  go_wp2_with fail
  refine (HS.out _).mono ?_; rintro e w1 ⟨rfl, hb1⟩
  have B1 := Lib.hid (bl_tr BA.out hb1)
  have Q1 := Lib.hid ((hb1.block _ (lt_hp Q0.out)).trans Q0.out)
  obtain ⟨c0, c1, c2, c3, c4, c5⟩ := box6 Q1.out
  clear hb1
  go_wp2_with fail
  refine (HC.out w1 B1.out).mono ?_; rintro e w2 ⟨rfl, hb2⟩
  have B2 := Lib.hid (bl_tr B1.out hb2)
  have Q2 := Lib.hid ((hb2.block _ (lt_hp Q1.out)).trans Q1.out)
  clear c0 c1 c2 c3 c4 c5
  obtain ⟨c0, c1, c2, c3, c4, c5⟩ := box6 Q2.out
  clear hb2
  have hw2 := PW.out.keep B2.out
  have CP := Lib.hid (icopy_any 2 n C wl vl cl wa va ca wc vc cc hw2.2.2.2.1 hw2.2.2.2.2.1 hw2.2.2.2.2.2 w2 hw2.1 hw2.2.1 hw2.2.2.1)
  have LL := Lib.hid hw2.2.2.2
  clear hw2 HC HS PW Q0 BA B1 Q1
  go_wp2_with fail
  refine CP.out.mono ?_; rintro e w3 ⟨a1, a2, a3, k1, k2, k3, rfl, hb3, l1, l2, l3⟩
  have q3 := (hb3.block _ (lt_hp Q2.out)).trans Q2.out
  have H3 : C3 w2.heap.size w3 a1 a2 a3 wl vl cl := ⟨l1, l2, l3⟩
  have BX := Lib.hid (six_below (bl_tr B2.out hb3) (Nat.le_refl w.heap.size) (.int .i64 2) (.int .i64 (n : Int)) (.int .i64 C) (.slice a1 wl.length k1) (.slice a2 vl.length k2) (.slice a3 cl.length k3))
  have S1 := Lib.hid (six q3 (.int .i64 2) (.int .i64 (n : Int)) (.int .i64 C) (.slice a1 wl.length k1) (.slice a2 vl.length k2) (.slice a3 cl.length k3))
  have HX3 := Lib.hid (H3.other q3 (fun k hk => six_other (w := w3) hk (.int .i64 2) (.int .i64 (n : Int)) (.int .i64 C) (.slice a1 wl.length k1) (.slice a2 vl.length k2) (.slice a3 cl.length k3)))
  have PX := Lib.hid (HX3.out.prob LL.out.1 LL.out.2.1 LL.out.2.2)
  clear c0 c1 c2 c3 c4 c5
  obtain ⟨c0, c1, c2, c3, c4, c5⟩ := box6 q3
  have cf := fr6 q3
  have hs := lt_hp q3
  clear hb3 l1 l2 l3 q3 H3 CP B2 Q2
  go_upto_region 4 with fail
  clear c0 c1 c2 c3 c4 c5 cf hs
  generalize ((((((w3.setCell ⟨w.heap.size, 0, none⟩ (.int .i64 2)).setCell ⟨w.heap.size, 1, none⟩ (.int .i64 (n : Int))).setCell ⟨w.heap.size, 2, none⟩ (.int .i64 C)).setCell ⟨w.heap.size, 3, none⟩ (.slice a1 wl.length k1)).setCell ⟨w.heap.size, 4, none⟩ (.slice a2 vl.length k2)).setCell ⟨w.heap.size, 5, none⟩ (.slice a3 cl.length k3)) = X at *
  have H6 := Lib.hid (fun (W : World) (h : Below X.heap.size X W) => box6 ((h.block _ (lt_hp S1.out)).trans S1.out))
  have XA := Lib.hid (fun (W : World) (h : Below X.heap.size X W) => kn.arg_srcA HXA.out W (BX.out.trans (h.mono BX.out.size)))
  have XL := HXA.out.len
  have XS := Lib.hid (fun (W : World) => kn.sl_run2 20 w xa xn xc x HXA.out W)
  obtain ⟨c0, c1, c2, c3, c4, c5⟩ := H6.out X (Below.refl _ _)
  have f1 : nt.fN 1 = 1 := by decide
  go_wp2
  go_loop [7, 8] (fun a k => ∃ j : Nat, 1 ≤ j ∧ j ≤ n ∧ a = .int .i64 ((nt.fN j : Nat) : Int) ∧ k = .int .i64 ((j : Int) + 1)) (fun _ k => n + 1 - (intOf k).toNat)
  case atStart => exact ⟨1, Nat.le_refl _, hn1, by rw [f1]; rfl, rfl⟩
  case round =>
    obtain ⟨j, hj1, hj, rfl, rfl⟩ := hrel
    have fl := fN_le j (by omega)
    by_cases hlt : j < n
    · have p1 : (j : Int) + 1 ≤ (n : Int) := by omega
      have e1 : ((nt.fN j : Nat) : Int) * ((j : Int) + 1) = ((nt.fN (j + 1) : Nat) : Int) := by rw [nt.fN_succ]; push_cast; rfl
      have fl2 := fN_le (j + 1) (by omega)
      have F := Lib.hid (show ∀ f2 : Nat, nt.fN (j + 1) = f2 → (f2 : Int) = ((nt.fN (j + 1) : Nat) : Int) from fun f2 h => by rw [h])
      generalize hf2 : nt.fN (j + 1) = f2 at e1 fl2
      have F2 := Lib.hid (F.out f2 hf2)
      clear hf2 F
      have hw : IntKind.i64.wrap (((nt.fN j : Nat) : Int) * ((j : Int) + 1)) = (f2 : Int) := by rw [e1, IntKind.wrap_i64]; omega
      go_wp2
      go_round
      case rel => exact ⟨j + 1, by omega, by omega, by rw [F2.out], by go_num⟩
      case measure => simp [intOf]; omega
    · obtain rfl : n = j := by omega
      have p1 : ¬ (n : Int) + 1 ≤ (n : Int) := by omega
      obtain ⟨m, hm⟩ : ∃ m : Nat, IntKind.u64.wrap rank = (m : Int) := ⟨(IntKind.u64.wrap rank).toNat, by rw [IntKind.wrap_u64]; omega⟩
      have hm2 : m < 18446744073709551616 := by have := hm; rw [IntKind.wrap_u64] at this; omega
      have fp := nt.fN_pos n
      obtain ⟨r, hr⟩ : ∃ r, m % nt.fN n = r := ⟨_, rfl⟩
      have hrl : r < nt.fN n := by rw [← hr]; exact Nat.mod_lt _ fp
      have NT := Lib.hid (fun W => nt.nth_ok n r (by omega) (by omega) hrl W)
      have e3 : (m : Int).tmod ((nt.fN n : Nat) : Int) = (r : Int) := by rw [← hr]; rfl
      have PI := Lib.hid (nt.ord_isP n (nt.dg n r) (fun k hk => nt.dg_lt n r k hk))
      have PLn := Lib.hid (nt.ord_len n (nt.dg n r))
      clear hr f1
      generalize nt.ord n (nt.dg n r) = pl at *
      generalize nt.fN n = f at *
      have e4 : IntKind.u64.wrap (f : Int) = (f : Int) := by rw [IntKind.wrap_u64]; omega
      have e5 : IntKind.u64.wrap (r : Int) = (r : Int) := by rw [IntKind.wrap_u64]; omega
      have e6 : IntKind.i64.wrap (r : Int) = (r : Int) := by rw [IntKind.wrap_i64]; omega
      have hf0 : ¬ (f : Int) = 0 := by omega
      have hf1 : ¬ f = 0 := by omega
      go_wp2
      have K0 := Lib.hid (H6.out X (Below.refl _ _))
      go_region_held3 (fun w' => w'.cell? ⟨w.heap.size, 1, none⟩ = some (.int .i64 (n : Int))) (first | exact K0.out.2.1 | exact K1.out.2.1)
        (first
          | (go_at_call 29; refine (NT.out _).mono ?_; rintro e w4 ⟨gp, rfl, hp⟩; have b4 := bl_undr hp.2.2.2; have B4 := Lib.hid b4; have K1 := Lib.hid (H6.out w4 b4); have OP := Lib.hid (nt_own_io hp); clear hp b4))
      clear K0 K1 NT e3 e4 e5 e6 hf0 hf1 hm hm2 fp hrl
      have hmin : min (xn : Int) 20 = (x.length : Int) := by have := XL.2.2; simpa using this
      have hif : (if (20 : Int) < (xn : Int) then 20 else (xn : Int)) = (x.length : Int) := by
        rw [← hmin]
        by_cases q : (20 : Int) < (xn : Int)
        · rw [if_pos q]; omega
        · rw [if_neg q]; omega
      have sl := XS.out
      have x20 := XL.1
      have SA := Lib.hid (XA.out (w4.alloc (.cells #[] 3)) (bl_al B4.out _))
      go_wp2_with (at_builtin; refine wpList_appA rfl _ _ rfl rfl w4.heap.size w4.heap.size x xa xc rfl rfl (by omega) (kn.own0 w4) (by simp) SA.out ?_)
      intro gx cx w5 hown hgrow
      have b5 := kn.app_below hgrow
      have B5 := Lib.hid (bl_tr B4.out b5)
      have IX := Lib.hid (ints_own rfl hown)
      have OP5 := Lib.hid (OP.out.keep b5)
      clear hown hgrow b5 SA sl hif hmin OP B4 XS XA XL HXA
      have CO := Lib.hid (cost_any 2 n C wl vl cl x a1 a2 a3 (some ⟨gx, 0, none⟩) k1 k2 k3 cx w5 (PX.out.keep B5.out) IX.out.ints (by omega))
      clear c0 c1 c2 c3 c4 c5
      obtain ⟨c0, c1, c2, c3, c4, c5⟩ := H6.out w5 B5.out
      go_wp2_with fail
      refine CO.out.mono ?_; rintro e w6 ⟨rfl, hb6⟩
      have B6 := Lib.hid (bl_tr B5.out hb6)
      have IX6 := Lib.hid (IX.out.keep hb6)
      have OP6 := Lib.hid (OP5.out.keep hb6)
      clear hb6 IX OP5 B5 CO c0 c1 c2 c3 c4 c5
      by_cases he : (costR 2 n C wl vl cl x).2 = 0
      rotate_left
      · have he' : ((costR 2 n C wl vl cl x).2 != 0) = true := by simpa using he
        have HE := Lib.hid (BX.out.trans (B6.out.mono BX.out.size))
        clear he
        generalize costR 2 n C wl vl cl x = cr at *
        go_wp2
        first
          | exact ⟨rfl, HE.out⟩
          | (go_ret; exact ⟨rfl, HE.out⟩)
      have hx : okx 2 n x := by
        by_cases ho : okx 2 n x
        · exact ho
        · rw [cost_arg HCk.out ho] at he; exact absurd he (by decide)
      have hF : Fm 2 n C wl vl cl := by have := (fm_of HCk.out).2; rw [Int.toNat_natCast] at this; exact this
      have hpx : permP x n := by
        rcases hx.2 with h | h
        · omega
        · simpa using h.2.2
      have hxl : x.length = n := hpx.1
      have hpp : permP pl n := by have := is_perm PI.out; rw [PLn.out] at this; exact this
      have RP := Lib.hid (rows_perm hF hx hpp)
      have RG := Lib.hid (perm_rng hpp)
      obtain ⟨a24, hc0, hwl, hvl, hcl, hrow⟩ := hF.rs (by decide)
      have HRL0 := Lib.hid (fun a (ha : a < n) => (hrow a ha).1)
      have TH := Lib.hid (nt.then_ok x pl (perm_is hpx) PI.out (by rw [hxl, PLn.out]) (by rw [PLn.out]; omega) (some ⟨gx, 0, none⟩) (some ⟨gp, 0, none⟩) cx n w6 (nt_ints IX6.out.ints) (nt_ints OP6.out.ints))
      have HWV := Lib.hid (And.intro hwl hvl)
      rw [PLn.out, hxl] at TH
      have HCL := Lib.hid hcl
      clear hx hF hpx hrow hwl hvl hcl hc0
      generalize hcr : costR 2 n C wl vl cl x = cr at *
      obtain ⟨co, er⟩ := cr
      simp only at he
      subst he
      clear hcr
      rw [hxl]
      obtain ⟨c0, c1, c2, c3, c4, c5⟩ := H6.out w6 B6.out
      go_wp2_with fail
      refine TH.out.mono ?_; rintro e w7 h
      obtain ⟨gy, l, e1, hy, hl⟩ := h
      rw [PLn.out] at e1 hy hl
      subst e1
      have hly : l = numsBy x pl := then_is (by rw [hy.1, PLn.out]) (by rw [PLn.out]; exact hl)
      have IY := Lib.hid (nt_own_io hy)
      have B7 := Lib.hid (bl_tr B6.out hy.2.2.2)
      have OP7 := Lib.hid (OP6.out.keep hy.2.2.2)
      have hl7 := hy.1
      subst hly
      clear hy hl TH IX6 OP6 c0 c1 c2 c3 c4 c5
      have PW := PX.out.keep B7.out
      have CP := Lib.hid (icopy_any 2 n C wl vl cl a1 a2 a3 k1 k2 k3 LL.out.1 LL.out.2.1 LL.out.2.2 w7 PW.1 PW.2.1 PW.2.2.1)
      obtain ⟨c0, c1, c2, c3, c4, c5⟩ := H6.out w7 B7.out
      clear PW
      go_wp2_with fail
      refine CP.out.mono ?_; rintro e w8 ⟨b1, b2, b3, m1, m2, m3, rfl, hb8, l1, l2, l3⟩
      obtain ⟨gt, rfl, hgt, J8⟩ := jr_start l3 HCL.out HRL0.out hn1
      obtain ⟨gi, rfl, hgi, JI⟩ := jr_start HX3.out.2.2 HCL.out HRL0.out hn1
      have JI' := Lib.hid JI
      have bY : Below w8.heap.size w8 (w8.alloc (.cells #[.int .i64 2, .int .i64 (n : Int), .int .i64 C, .slice b1 wl.length m1, .slice b2 vl.length m2, .slice (some ⟨gt, 0, none⟩) cl.length m3] 25)) := bl_al (Below.refl _ _) _
      have J0 := Lib.hid ((J8.keep bY).congr (R' := (fun a => if a < 0 then cl[(nth pl a).toNat]?.getD [] else cl[a]?.getD [])) (fun a ha => by rw [if_neg (by omega)]))
      have BJ0 := Lib.hid (heap_alloc_new w8 (.cells #[.int .i64 2, .int .i64 (n : Int), .int .i64 C, .slice b1 wl.length m1, .slice b2 vl.length m2, .slice (some ⟨gt, 0, none⟩) cl.length m3] 25))
      have BS0 := Lib.hid (bl_tr hb8 bY)
      have ltp : gp < w7.heap.size := OP7.out.lt
      have S7 := Lib.hid ((B7.out.block _ (lt_hp S1.out)).trans S1.out)
      have GT := Lib.hid (show w8.heap.size ≠ gt ∧ w.heap.size ≠ gt ∧ gi ≠ gt ∧ gp ≠ gt ∧ w7.heap.size ≤ gt from by
        obtain ⟨cur, t1, _⟩ := J8
        obtain ⟨cur2, t2, _⟩ := JI
        have u1 := lt_hp t1
        have u2 := lt_hp t2
        have u3 := B7.out.size
        have u4 := lt_hp S7.out
        exact ⟨by omega, by omega, by omega, by omega, hgt⟩)
      rw [HCL.out] at S7
      clear c0 c1 c2 c3 c4 c5 hb8 l1 l2 l3 J8 JI bY hgi hgt CP
      go_upto_region 18 with fail
      generalize hYg : (w8.alloc (.cells #[.int .i64 2, .int .i64 (n : Int), .int .i64 C, .slice b1 wl.length m1, .slice b2 vl.length m2, .slice (some ⟨gt, 0, none⟩) cl.length m3] 25)) = Y at J0 BJ0 BS0 ⊢
      clear hYg
      rw [HCL.out] at BJ0
      go_wp2
      go_loopw [16] (fun kv wr => ∃ k : Nat, k ≤ n ∧ kv = .int .i64 (k : Int) ∧ Hid (JR gt n (fun a => if a < k then cl[(nth pl a).toNat]?.getD [] else cl[a]?.getD []) wr) ∧ Hid (wr.heap[w8.heap.size]? = some (.cells #[.int .i64 2, .int .i64 (n : Int), .int .i64 C, .slice b1 wl.length m1, .slice b2 vl.length m2, .slice (some ⟨gt, 0, none⟩) n m3] 25 (0, 0))) ∧ Hid (Below w7.heap.size w7 wr)) (fun kv _ => n - (intOf kv).toNat)
      case atStart => exact ⟨0, by omega, rfl, J0, BJ0, BS0⟩
      case round =>
        clear J0 BJ0 BS0
        obtain ⟨k, hk, rfl, HJ, BJ, BS⟩ := hrel
        have QW := Lib.hid ((BS.out.block _ (lt_hp S7.out)).trans S7.out)
        obtain ⟨e0, e1, e2, e3, e4, e5⟩ := box6 QW.out
        obtain ⟨d0, d1, d2, d3, d4, d5⟩ := box6 BJ.out
        by_cases hlt : k < n
        · have p2 : (k : Int) < (n : Int) := by omega
          have rg := RG.out k (by rw [PLn.out]; exact hlt)
          rw [PLn.out] at rg
          obtain ⟨r, hr⟩ : ∃ r : Nat, nth pl k = (r : Int) := ⟨(nth pl k).toNat, by omega⟩
          have hrn : r < n := by omega
          have p3 : (r : Int) < (n : Int) := by omega
          have p4 : (0 : Int) ≤ (r : Int) := by omega
          have p5 : (0 : Int) ≤ (k : Int) := by omega
          have HR := Lib.hid hr
          obtain ⟨ci, hci, hri⟩ := JI'.out
          obtain ⟨gr, cr, hcc, hI, hrl⟩ := hri r hrn
          have HRL := Lib.hid hrl
          have HK : Hid (∀ W, Below wr.heap.size wr W → W.cell? ⟨w8.heap.size, 5, none⟩ = some (.slice (some ⟨gt, 0, none⟩) n m3) ∧ W.cell? ⟨w.heap.size, 5, none⟩ = some (.slice (some ⟨gi, 0, none⟩) n k3) ∧ W.cell? ⟨gp, k, none⟩ = some (.int .i64 (r : Int)) ∧ W.cell? ⟨gi, r, none⟩ = some (.slice (some ⟨gr, 0, none⟩) n cr)) := Lib.hid fun W hb => by
            have hb7 : Below w7.heap.size w7 W := BS.out.trans (hb.mono BS.out.size)
            have hbX : Below X.heap.size X W := bl_tr B7.out hb7
            have j5 := (hb.block _ (lt_hp BJ.out)).trans BJ.out
            have q5 := (hb7.block _ (lt_hp S7.out)).trans S7.out
            have o5 := OP7.out.keep hb7
            obtain ⟨cp, t1, t2⟩ := o5
            refine ⟨cell_at j5 rfl, cell_at q5 rfl, ?_, cell_at ((hbX.block _ (lt_hp hci)).trans hci) hcc⟩
            rw [cell_of_row _ _ _ _ _ _ t1, t2 k (by rw [PLn.out]; exact hlt), ← hr, nth_def]
          have K0 := Lib.hid (HK.out wr.drew (bl_drew wr))
          have ba : Below wr.heap.size wr (wr.drew.alloc (.cells #[] 3)) := (bl_drew wr).alloc (Nat.le_refl _) _
          have K1 := Lib.hid (HK.out _ ba)
          have IW := Lib.hid (hI.keep (bl_tr B7.out BS.out))
          have HNS := Lib.hid (nt.app_src (X := wr.drew) (b := gr) (o := 0) (l := cl[r]?.getD []) IW.out.lt (fun j hj => by
            obtain ⟨b, o, e, _, m⟩ := IW.out.ints j hj
            injection e with e
            injection e with e1 e2
            subst e1 e2
            rw [nt_nth, nth_def]
            exact m))
          have ho := nt.own0 wr.drew
          have BA := Lib.hid ba
          clear hcc hI ba hci hri hrl hr rg
          go_wp2
          go_region_held3 (fun w' => w'.cell? ⟨w8.heap.size, 5, none⟩ = some (.slice (some ⟨gt, 0, none⟩) n m3) ∧ w'.cell? ⟨w.heap.size, 5, none⟩ = some (.slice (some ⟨gi, 0, none⟩) n k3) ∧ w'.cell? ⟨gp, k, none⟩ = some (.int .i64 (r : Int)) ∧ w'.cell? ⟨gi, r, none⟩ = some (.slice (some ⟨gr, 0, none⟩) n cr)) (first | exact K0.out | exact K1.out | exact K2.out | exact K3.out)
            (first
              | (refine step_append_lies _ (by rfl) _ _ _ (by rfl) wr.heap.size 3 i0 (.int .i64 0) 1 8 Try.underlying22 hi hz0 hz1 hz2 rfl (by decide) _ 0 [] (by rfl) ho ⟨gr, 0, none⟩ n cr ((cl[r]?.getD []).map (Value.int .i64)) (by rfl) (by simp [HRL.out]) HNS.out (by simp [Value.oneCell']) (by omega) (by unfold maxLen; omega) (by omega) (by simp) _ rfl ?_; intro g cap w2 hown hgrow hat hlg; simp only [Nat.zero_add] at hown ⊢; have b2 : Below wr.heap.size wr w2 := BA.out.grown hgrow (by simp) (fun j hj => by simp [Value.ownBlock] at hj; omega); have K2 := Lib.hid (HK.out w2 b2); have J2 := Lib.hid (HJ.out.keep b2); have IG := Lib.hid (ints_own (l := cl[r]?.getD []) HRL.out (by simpa using hown)); have BJ2 := Lib.hid ((b2.block _ (lt_hp BJ.out)).trans BJ.out); have BS2 := Lib.hid (BS.out.trans (b2.mono BS.out.size)); obtain ⟨⟨gq, cq, c6⟩, f6, _⟩ := J2.out.cell hlt; have K3 : Hid ((w2.setCell ⟨gt, k, none⟩ (.slice (some ⟨g, 0, none⟩) n cap)).cell? ⟨w8.heap.size, 5, none⟩ = some (.slice (some ⟨gt, 0, none⟩) n m3) ∧ (w2.setCell ⟨gt, k, none⟩ (.slice (some ⟨g, 0, none⟩) n cap)).cell? ⟨w.heap.size, 5, none⟩ = some (.slice (some ⟨gi, 0, none⟩) n k3) ∧ (w2.setCell ⟨gt, k, none⟩ (.slice (some ⟨g, 0, none⟩) n cap)).cell? ⟨gp, k, none⟩ = some (.int .i64 (r : Int)) ∧ (w2.setCell ⟨gt, k, none⟩ (.slice (some ⟨g, 0, none⟩) n cap)).cell? ⟨gi, r, none⟩ = some (.slice (some ⟨gr, 0, none⟩) n cr)) := Lib.hid ⟨(cell_oth GT.out.1).trans K2.out.1, (cell_oth GT.out.2.1).trans K2.out.2.1, (cell_oth GT.out.2.2.2.1).trans K2.out.2.2.1, (cell_oth GT.out.2.2.1).trans K2.out.2.2.2⟩; have J3 := Lib.hid (J2.out.row (k := k) (c := cap) hlt IG.out HRL.out); have BJ3 := Lib.hid ((set_oth w2 gt k (.slice (some ⟨g, 0, none⟩) n cap) GT.out.1).trans BJ2.out); have BS3 := Lib.hid (BS2.out.setCell (p := ⟨gt, k, none⟩) GT.out.2.2.2.2 (.slice (some ⟨g, 0, none⟩) n cap)); clear hown hgrow hat hlg b2 J2 IG BJ2 BS2))
          clear K0 K1 K2 K3 HK IW HNS ho BA HJ BJ BS QW c6 f6 e0 e1 e2 e3 e4 e5 d0 d1 d2 d3 d4 d5
          generalize (w2.setCell ⟨gt, k, none⟩ (.slice (some ⟨g, 0, none⟩) n cap)) = W3 at J3 BJ3 BS3 ⊢
          have J4 := Lib.hid (J3.out.congr (R' := (fun a => if a < k + 1 then cl[(nth pl a).toNat]?.getD [] else cl[a]?.getD [])) (fun a ha => by
            by_cases c : a = k
            · rw [if_pos c, if_pos (by omega), c, HR.out]; rfl
            · rw [if_neg c]
              by_cases c2 : a < k
              · rw [if_pos c2, if_pos (by omega)]
              · rw [if_neg c2, if_neg (by omega)]))
          clear J3
          go_wp2
          go_roundw
          case rel => exact ⟨k + 1, by omega, by go_num, J4, BJ3, BS3⟩
          case measure => simp [intOf]; omega
        · obtain rfl : n = k := by omega
          have p2 : ¬ (n : Int) < (n : Int) := by omega
          have nilI : ∀ (W : World) (p : Option Addr) (l : List Int), l = [] → Ints W p l := fun W p l h j hj => by rw [h] at hj; simp at hj
          have rbl : (rowsBy cl pl).length = n := by unfold rowsBy; rw [List.length_map, PLn.out]
          have HC3 := Lib.hid (cost_any 2 n C wl vl (rowsBy cl pl) (numsBy x pl) b1 b2 (some ⟨gt, 0, none⟩) (some ⟨gy, 0, none⟩) m1 m2 m3 n wr
            ⟨nilI _ _ _ HWV.out.1, nilI _ _ _ HWV.out.2, HJ.out.rws a24 rbl (fun a ha => by rw [rowsBy_get (by rw [PLn.out]; exact ha), if_pos ha]), by rw [HWV.out.1]; simp, by rw [HWV.out.2]; simp, by rw [rbl]; omega⟩
            (IY.out.keep BS.out).ints (by rw [hl7]; omega))
          rw [RP.out, rbl, hl7] at HC3
          clear nilI rbl
          go_wp2_with fail
          refine HC3.out.mono ?_; rintro e w9 ⟨rfl, hb9⟩
          have BZ := Lib.hid (BX.out.trans ((bl_tr B7.out (bl_tr BS.out hb9)).mono BX.out.size))
          clear hb9 HC3 d0 d1 d2 d3 d4 d5 e0 e1 e2 e3 e4 e5
          go_wp2
          first
            | exact ⟨rfl, BZ.out⟩
            | (go_ret; exact ⟨rfl, BZ.out⟩)
theorem kurganRows_walk (kd N C : Int) (wl vl : List Int) (cl : List (List Int)) (wa va ca : Option Addr) (wc vc cc : Nat) (rank : Int) (x : List Int) (xa : Option Addr) (xn xc : Nat) (w : World) (h1 : Ints w wa wl) (h2 : Ints w va vl) (h3 : RwF w ca cl) (hz : (Lit.int .i64 rank).wf = true) (h4 : kn.Arg 20 w xa xn xc x) :
    Calls Try.prog 8 #[.agg #[.int .i64 kd, .int .i64 N, .int .i64 C, .slice wa wl.length wc, .slice va vl.length vc, .slice ca cl.length cc], .int .i64 rank, .slice xa xn xc] w fun e w' => e = .returned (.bool true) ∧ Below w.heap.size w w' := by
  by_cases hc : chk kd N C wl vl cl = 0
  · by_cases hk : kd = 2
    · by_cases h8 : N ≤ 8
      · subst hk
        have h1n := (chk_zero hc).1
        obtain ⟨n, rfl⟩ : ∃ n : Nat, N = (n : Int) := ⟨N.toNat, by omega⟩
        exact krows_ok n C wl vl cl wa va ca wc vc cc rank x xa xn xc w h1 h2 h3 h4 hc (by omega)
      · exact krows_no kd N C wl vl cl wa va ca wc vc cc rank xa xn xc w h1 h2 h3 (.inr (.inr (by omega)))
    · exact krows_no kd N C wl vl cl wa va ca wc vc cc rank xa xn xc w h1 h2 h3 (.inr (.inl hk))
  · exact krows_no kd N C wl vl cl wa va ca wc vc cc rank xa xn xc w h1 h2 h3 (.inl hc)
end Go.Proofs.Ytaobaiifbmhegaa

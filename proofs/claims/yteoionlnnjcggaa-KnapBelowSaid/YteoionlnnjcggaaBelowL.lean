/-
  knap: KnapBelow, walked.
-/
import Derived.Test.YteoionlnnjcggaaBf
namespace Go.Proofs.Yteoionlnnjcggaa.kn
open Go.RowKit
set_option linter.unusedVariables false
theorem src_io {X : World} {g c : Nat} {l : List Int} (h : IntsO X g l) : SrcA X (some ⟨g, 0, none⟩) c l := .inr ⟨_, rfl, cells_src (fun j hj => by
  obtain ⟨b, o, e, _, m⟩ := h.ints j hj
  injection e with e
  injection e with e1 e2
  subst e1 e2
  exact m)⟩
set_option maxRecDepth 100000 in
set_option maxHeartbeats 16000000 in
theorem below_walk (kd N C : Int) (wl vl : List Int) (cl : List (List Int)) (wa va ca : Option Addr) (wn vn cn wc vc cc : Nat) (pl : List Int) (pa : Option Addr) (pn pc : Nat) (w : World) (h1 : Src w wa wn wc wl) (h2 : Src w va vn vc vl) (h3 : RSrc w ca cn cc cl) (h4 : Src w pa pn pc pl) :
    Calls Try.prog 6 #[.agg #[.int .i64 kd, .int .i64 N, .int .i64 C, .slice wa wn wc, .slice va vn vc, .slice ca cn cc], .slice pa pn pc] w fun e w' => e = .returned (.bool true) ∧ Below w.heap.size w w' := by
  have bA : Below w.heap.size w (w.alloc (.cells #[.int .i64 kd, .int .i64 N, .int .i64 C, .slice wa wn wc, .slice va vn vc, .slice ca cn cc] 25)) := bl_al (Below.refl _ _) _
  have HC := Lib.hid (refcopy_any kd N C wl vl cl wa va ca wn vn cn wc vc cc _ (h1.keep bA) (h2.keep bA) (h3.keep bA))
  have S4 := Lib.hid (h4.keep bA)
  have HB := Lib.hid bA
  have l1 : wl.length ≤ 1000 := by have := h1.1; omega
  have l2 : vl.length ≤ 1000 := by have := h2.1; omega
  have l3 : cl.length ≤ 1000 := by have := h3.1; omega
  have lp : pl.length ≤ 70 := by have := h4.1; omega
  have KS := Lib.hid (fun W => knaps_any W)
  clear h1 h2 h3 h4 bA
  go_enter Try.func6, Try.ntmps6
  go_wp2_with fail
  refine HC.out.mono ?_; rintro e w1 ⟨g1, k1, g2, k2, ca', cc', rfl, hb, i1, i2, rw⟩
  have q0 : w1.heap[w.heap.size]? = some (.cells #[.int .i64 kd, .int .i64 N, .int .i64 C, .slice wa wn wc, .slice va vn vc, .slice ca cn cc] 25 (0, 0)) := (hb.block _ (by simp)).trans (heap_alloc_new w _)
  have HQ0 := Lib.hid q0
  have PC := Lib.hid (pcut_src (S4.out.keep hb))
  have H1 := Lib.hid (And.intro i1 (And.intro i2 rw))
  have HB1 := Lib.hid (bl_tr HB.out hb)
  clear hb i1 i2 rw q0 HC HB S4
  go_wp2_with fail
  refine PC.out.mono ?_; rintro e x1 ⟨g3, k3, rfl, hx, ho⟩
  have QX := Lib.hid ((hx.block _ (lt_hp HQ0.out)).trans HQ0.out)
  have hcap : pl.length ≤ k3 ∧ k3 ≤ 9223372036854775807 := ⟨(src_of ho lp).2.1, (src_of ho lp).2.2.1⟩
  have P := put_copy (K := kd) (N := N) (C := C) (k1 := k1) (k2 := k2) (cc := cc') (Nat.le_refl _) QX.out (bl_tr HB1.out hx) (H1.out.1.keep hx) (H1.out.2.1.keep hx) (H1.out.2.2.keep hx) l1 l2 l3 _ rfl
  have PI : IntsO _ g3 pl := (ints_own rfl ho).same (six_other (w := x1) ((ints_own rfl ho).ne QX.out (by decide)) (.int .i64 kd) (.int .i64 N) (.int .i64 C) (.slice (some ⟨g1, 0, none⟩) wl.length k1) (.slice (some ⟨g2, 0, none⟩) vl.length k2) (.slice ca' cl.length cc'))
  have HP := Lib.hid P
  have HPI := Lib.hid PI
  obtain ⟨c0, c1, c2, c3, c4, c5⟩ := box6 QX.out
  have cf := fr6 QX.out
  clear P PI ho hx HB1 PC H1 HQ0 QX
  have FO := Lib.hid (fun h1 h2 => form_of (K := kd) (N := N) (C := C) (wl := wl) (vl := vl) (cl := cl) h1 h2)
  go_wp2_with fail
  clear c0 c1 c2 c3 c4 c5 cf
  generalize ((((((x1.setCell ⟨w.heap.size, 0, none⟩ (.int .i64 kd)).setCell ⟨w.heap.size, 1, none⟩ (.int .i64 N)).setCell ⟨w.heap.size, 2, none⟩ (.int .i64 C)).setCell ⟨w.heap.size, 3, none⟩ (.slice (some ⟨g1, 0, none⟩) wl.length k1)).setCell ⟨w.heap.size, 4, none⟩ (.slice (some ⟨g2, 0, none⟩) vl.length k2)).setCell ⟨w.heap.size, 5, none⟩ (.slice ca' cl.length cc')) = X at *
  have LP := Lib.hid (ints_ls HPI.out hcap.1)
  have SP := Lib.hid (src_io (c := k3) HPI.out)
  have PR := Lib.hid HP.out.2.1
  have E2 := Lib.hid HP.out.1
  have B2 := Lib.hid HP.out.2.2
  have HNw := Lib.hid (new_any kd N C wl vl cl (some ⟨g1, 0, none⟩) (some ⟨g2, 0, none⟩) ca' k1 k2 cc' X PR.out.1 PR.out.2.1 PR.out.2.2.1 l1 l2 l3)
  clear hcap HP HPI
  generalize hch : chk kd N C wl vl cl = ch at *
  have HCH := Lib.hid hch
  clear hch
  refine HNw.out.mono ?_; rintro e w3 hq
  rcases hq with ⟨hz, rfl, hb3⟩ | ⟨rfl, hK, rfl, hb3⟩ | ⟨rfl, rfl, p, T, rfl, hk, ho, hb3⟩
  · have B3 := Lib.hid (bl_tr B2.out hb3)
    have b2 : (ch != 0) = true := by simpa using hz
    clear hb3 HNw FO hz
    go_wp2_with fail
    refine (KS.out w3).mono ?_; rintro e w4 ⟨rfl, hb4⟩
    have B4 := Lib.hid (bl_tr B3.out hb4)
    clear hb4
    go_wp2_with fail
    refine (KS.out w4).mono ?_; rintro e w5 ⟨rfl, hb5⟩
    have B5 := Lib.hid (bl_tr B4.out hb5)
    clear hb5
    go_wp2
    go_ret
    exact ⟨rfl, B5.out⟩

  · have B3 := Lib.hid (bl_tr B2.out hb3)
    clear hb3 HNw FO hK
    go_wp2_with fail
    refine (KS.out w3).mono ?_; rintro e w4 ⟨rfl, hb4⟩
    have B4 := Lib.hid (bl_tr B3.out hb4)
    clear hb4
    go_wp2_with fail
    refine (KS.out w4).mono ?_; rintro e w5 ⟨rfl, hb5⟩
    have B5 := Lib.hid (bl_tr B4.out hb5)
    clear hb5
    go_wp2
    go_ret
    exact ⟨rfl, B5.out⟩

  · obtain ⟨hN, lv, n1, n2, c0', c1', io, l0⟩ := FO.out rfl rfl
    have OK := Lib.hid (ho.ok (C := C) n1 n2 lv c0' c1' io)
    have TL : T.length = wl.length := ho.rng.1
    have SRT := Lib.hid (show Srt (pick wl T) (pick vl T) 0 T.length from by rw [TL]; exact srt_of ho (fun j hj => ⟨(io j hj).1.1, (io j hj).2.1⟩))
    have PRY := Lib.hid (fun (Y : World) (hb : Below w3.heap.size w3 Y) => show Prob Y wl vl cl (some ⟨g1, 0, none⟩) (some ⟨g2, 0, none⟩) ca' from ⟨PR.out.1.keep (bl_tr hb3 hb), PR.out.2.1.keep (bl_tr hb3 hb), PR.out.2.2.1.keep (bl_tr hb3 hb), l1, l2, l3⟩)
    have SM := Lib.hid (fun (Y : World) (hb : Below w3.heap.size w3 Y) => small_any N C wl vl cl (some ⟨g1, 0, none⟩) (some ⟨g2, 0, none⟩) ca' k1 k2 cc' Y (PRY.out Y hb) HCH.out)
    have BN := Lib.hid (fun (Y : World) (hb : Below w3.heap.size w3 Y) => bound_any OK.out (hk.up hb) (LP.out.up (bl_tr hb3 hb)) (by omega))
    have DP := Lib.hid (fun (Y : World) (hb : Below w3.heap.size w3 Y) => depth_any (hk.up hb))
    have BS := Lib.hid (fun (lo : LeftOk C (pick wl T) pl) (Y : World) (hb : Below w3.heap.size w3 Y) => best_any N C wl vl cl T (some ⟨g1, 0, none⟩) (some ⟨g2, 0, none⟩) ca' k1 k2 cc' HCH.out hN lv n2 io ho OK.out (T.length - pl.length) pl _ Y (by have := lo.le; rw [pick_len] at this; omega) (PRY.out Y hb) lo (LP.out.up (bl_tr hb3 hb)) (fun pa pc e => by
      injection e with e1 e2 e3
      subst e1 e3
      exact srcA_up SP.out (bl_tr hb3 hb)))
    have KA := Lib.hid (fun (Y : World) (hb : Below w3.heap.size w3 Y) => kans_any OK.out (hk.up hb) (LP.out.up (bl_tr hb3 hb)) (by omega))
    have pm := prm_of ho (fun j hj => (io j hj).1.1)
    have RC := Lib.hid (fun (lo : LeftOk C (pick wl T) pl) (hw : pl.length = T.length) (Y : World) (u : Value) (hb : Below w3.heap.size w3 Y) (hx : Ls u (ansl T pl T.length) Y) => rcost_any N C wl vl cl (ansl T pl T.length) (some ⟨g1, 0, none⟩) (some ⟨g2, 0, none⟩) ca' k1 k2 cc' u Y (PRY.out Y hb) HCH.out hN lv n2 io hx (by rw [ansl_len, TL]) (fun j hj => by
      rw [ansl_len] at hj
      obtain ⟨i, hi, _, e⟩ := ansl_all (pl := pl) pm j hj
      rw [e]
      exact lo.bit i (by omega)) (by
      rw [← TL, ws_ansl C pm]
      have := lo.room
      rw [hw] at this
      omega))
    have EV := Lib.hid (fun (hw : pl.length = T.length) => show cs vl (ansl T pl T.length) wl.length = bv C T (pick wl T) (pick vl T) pl ∧ bdv C T (pick wl T) (pick vl T) pl = bv C T (pick wl T) (pick vl T) pl from ⟨by rw [← TL, cs_ansl pm hw]; exact (bdv_whole hw).2.symm, (bdv_whole hw).1.trans (bdv_whole hw).2.symm⟩)
    have BX := Lib.hid (fun (Y : World) (hb : Below w3.heap.size w3 Y) => box6 (((bl_tr hb3 hb).block _ (lt_hp E2.out)).trans E2.out))
    have B3 := Lib.hid (bl_tr B2.out hb3)
    clear hb3 HNw FO lv n1 n2 c0' c1' io l0 hk ho HCH PR LP SP B2 pm
    go_wp2_with fail
    refine (KS.out w3).mono ?_; rintro e w4 ⟨rfl, D4⟩
    replace D4 := Lib.hid D4
    obtain ⟨c0, c1, c2, c3, c4, c5⟩ := BX.out w4 D4.out
    go_wp2_with fail
    clear c0 c1 c2 c3 c4 c5
    by_cases h9 : N ≤ 9
    case neg =>
      have SM2 := SM.out w4 D4.out
      rw [decide_eq_false h9] at SM2
      refine SM2.mono ?_; rintro e w5 ⟨rfl, hb5⟩
      have D5 := Lib.hid (bl_tr D4.out hb5)
      clear hb5 SM2
      go_wp2_with fail
      refine (KS.out w5).mono ?_; rintro e w6 ⟨rfl, hb6⟩
      have D6 := Lib.hid (bl_tr B3.out (bl_tr D5.out hb6))
      clear hb6
      go_wp2
      go_ret
      exact ⟨rfl, D6.out⟩
    have SM2 := SM.out w4 D4.out
    rw [decide_eq_true h9] at SM2
    refine SM2.mono ?_; rintro e w5 ⟨rfl, hb5⟩
    have D5 := Lib.hid (bl_tr D4.out hb5)
    clear hb5 SM2
    go_wp2_with fail
    refine (BN.out w5 D5.out).mono ?_; rintro e w6 ⟨q1, q2, hb6⟩
    have D6 := Lib.hid (bl_tr D5.out hb6)
    by_cases lo : LeftOk C (pick wl T) pl
    case neg =>
      obtain rfl := q2 lo
      have BF := Lib.hid (bl_tr B3.out D6.out)
      clear q1 q2 hb6
      go_wp2
      go_ret
      exact ⟨rfl, BF.out⟩
    obtain rfl := q1 lo
    have BS2 := Lib.hid (BS.out lo)
    have RC2 := Lib.hid (RC.out lo)
    have g1' := bdv_pos OK.out lo
    have g2' : bdv C T (pick wl T) (pick vl T) pl ≤ bv C T (pick wl T) (pick vl T) pl := bdv_best OK.out SRT.out lo
    have HLO := Lib.hid lo
    clear q1 q2 hb6 BS RC lo
    generalize bdv C T (pick wl T) (pick vl T) pl = bd at *
    generalize bv C T (pick wl T) (pick vl T) pl = bx at *
    obtain ⟨c0, c1, c2, c3, c4, c5⟩ := BX.out w6 D6.out
    go_wp2_with fail
    clear c0 c1 c2 c3 c4 c5
    refine (BS2.out w6 D6.out).mono ?_; rintro e w7 ⟨rfl, hb7⟩
    have D7 := Lib.hid (bl_tr D6.out hb7)
    clear hb7
    go_wp2_with fail
    refine (DP.out w7 D7.out).mono ?_; rintro e w8 ⟨rfl, rfl⟩
    by_cases hw : pl.length = T.length
    · obtain ⟨v1, v2⟩ := EV.out hw
      have b1 : ((pl.length : Int) == (T.length : Int)) = true := by simp [hw]
      have RC3 := Lib.hid (RC2.out hw)
      have HWH := Lib.hid hw
      have V1 := Lib.hid v1
      subst v2
      clear v1 hw RC2
      go_wp2_with fail
      refine (KA.out _ D7.out).mono ?_; rintro e w9 hq
      rcases hq with ⟨-, u2, rfl, hu, hb9⟩ | ⟨hq, -⟩
      case inr => exact absurd ⟨HLO.out, HWH.out⟩ hq
      have D9 := Lib.hid (bl_tr D7.out hb9)
      have HU := Lib.hid hu
      clear hu hb9
      obtain ⟨c0, c1, c2, c3, c4, c5⟩ := BX.out w9 D9.out
      go_wp2_with fail
      clear c0 c1 c2 c3 c4 c5
      refine (RC3.out _ _ D9.out HU.out).mono ?_; rintro e w10 ⟨rfl, hb10⟩
      have BF := Lib.hid (bl_tr B3.out (bl_tr D9.out hb10))
      clear hb10
      rw [V1.out]
      have z1 : (bd == bd) = true := by simp
      go_wp2
      go_ret
      exact ⟨rfl, BF.out⟩
    · have b1 : ((pl.length : Int) == (T.length : Int)) = false := beq_eq_false_iff_ne.mpr (by omega)
      have BF := Lib.hid (bl_tr B3.out D7.out)
      clear hw
      go_wp2
      go_ret
      exact ⟨rfl, BF.out⟩
end Go.Proofs.Yteoionlnnjcggaa.kn

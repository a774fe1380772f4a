/-
  knap: KnapKids, walked.
-/
import Derived.Test.YteoionlnnjcggaaSt5
namespace Go.Proofs.Yteoionlnnjcggaa.kn
open Go.RowKit
set_option linter.unusedVariables false
theorem ints_src {g cap : Nat} {l : List Int} {X : World} (h : IntsO X g l) (hc : l.length ≤ cap) (hm : cap ≤ 9223372036854775807) (hl : l.length ≤ 70) : Src X (some ⟨g, 0, none⟩) l.length cap l := by
  refine ⟨by omega, hc, hm, .inr ⟨g, 0, rfl, h.lt, fun j hj => ?_⟩⟩
  obtain ⟨g1, o1, e, _, m⟩ := h.ints j hj
  injection e with e
  injection e with e1 e2
  subst e1 e2
  exact m
theorem ints_ls {g cap : Nat} {l : List Int} {X : World} (h : IntsO X g l) (hc : l.length ≤ cap) : Ls (.slice (some ⟨g, 0, none⟩) l.length cap) l X := by
  refine .inr ⟨g, 0, cap, rfl, hc, h.lt, fun j hj => ?_⟩
  obtain ⟨g1, o1, e, _, m⟩ := h.ints j hj
  injection e with e
  injection e with e1 e2
  subst e1 e2
  exact m
theorem ls_od {a : Option Addr} {n c : Nat} {L : List Int} {w : World} (h : Ls (.slice a n c) L w) : od.Ints w a L := fun j hj => by
  rcases h with ⟨_, _, _, h0⟩ | ⟨g, o, c', h1, _, h3, h4⟩
  · subst h0; simp at hj
  · injection h1 with q1 q2 q3
    exact ⟨g, o, q1, h3, by rw [nt_od]; exact h4 j hj⟩
/-- a list and an error that are handed back -/
def LrP (V : List Int → Int → Prop) (w : World) (e : Ending) (w' : World) : Prop := ∃ L er a c, V L er ∧ e = .returned (.tuple #[.slice a L.length c, .int .i64 er]) ∧ Ls (.slice a L.length c) L w' ∧ Below w.heap.size w w'
theorem lr_kd {C : Int} {T Wl pl : List Int} {w w' : World} {e : Ending} (h : KdP C T Wl pl w e w') : LrP (KdV C T Wl pl) w e w' := by
  obtain ⟨l, er, kv, v, rfl, ol, hb⟩ := h
  obtain ⟨a, c, rfl⟩ := ol.form
  exact ⟨l, er, a, c, kv, rfl, ol.ls, hb⟩
def AnV (C : Int) (T Wl pl L : List Int) (er : Int) : Prop := (LeftOk C Wl pl ∧ pl.length = T.length → L = ansl T pl T.length ∧ er = 0) ∧ (¬ (LeftOk C Wl pl ∧ pl.length = T.length) → L = [] ∧ er = 1)
theorem lr_an {C : Int} {T Wl pl : List Int} {w w' : World} {e : Ending} (h : AnP C T Wl pl w e w') : LrP (AnV C T Wl pl) w e w' := by
  rcases h with ⟨hk, v, rfl, hl, hb⟩ | ⟨hk, rfl, hb⟩
  · obtain ⟨a, c, rfl⟩ := hl.form
    exact ⟨_, 0, a, c, ⟨fun _ => ⟨rfl, rfl⟩, fun g => absurd hk g⟩, rfl, hl, hb⟩
  · exact ⟨[], 1, none, 0, ⟨fun g => absurd g hk, fun _ => ⟨rfl, rfl⟩⟩, rfl, .inl ⟨_, _, rfl, rfl⟩, hb⟩
theorem an_one {C : Int} {T Wl pl L M : List Int} {a b : Int} (h1 : AnV C T Wl pl L a) (h2 : AnV C T Wl pl M b) : M = L ∧ b = a := by
  by_cases h : LeftOk C Wl pl ∧ pl.length = T.length
  · obtain ⟨rfl, rfl⟩ := h1.1 h
    exact h2.1 h
  · obtain ⟨rfl, rfl⟩ := h1.2 h
    exact h2.2 h
theorem kd_one {C : Int} {T Wl pl L M : List Int} {a b : Int} (h1 : KdV C T Wl pl L a) (h2 : KdV C T Wl pl M b) : M = L ∧ b = a := by
  by_cases h : LeftOk C Wl pl
  · by_cases hn : pl.length = T.length
    · obtain ⟨rfl, rfl⟩ := h1.whole h hn
      exact h2.whole h hn
    · by_cases hr : rm C Wl pl pl.length < nt Wl pl.length
      · obtain ⟨rfl, rfl⟩ := h1.big h hn hr
        exact h2.big h hn hr
      · obtain ⟨rfl, rfl⟩ := h1.fit h hn (by omega)
        exact h2.fit h hn (by omega)
  · obtain ⟨rfl, rfl⟩ := h1.no h
    exact h2.no h
theorem kd_len {C : Int} {T Wl pl L : List Int} {a : Int} (h1 : KdV C T Wl pl L a) : L.length ≤ 1000 := by
  by_cases h : LeftOk C Wl pl
  · by_cases hn : pl.length = T.length
    · obtain ⟨rfl, rfl⟩ := h1.whole h hn
      simp
    · by_cases hr : rm C Wl pl pl.length < nt Wl pl.length
      · obtain ⟨rfl, rfl⟩ := h1.big h hn hr
        simp
      · obtain ⟨rfl, rfl⟩ := h1.fit h hn (by omega)
        simp
  · obtain ⟨rfl, rfl⟩ := h1.no h
    simp
theorem an_len {C : Int} {T Wl pl L : List Int} {a : Int} (ht : T.length ≤ 64) (h1 : AnV C T Wl pl L a) : L.length ≤ 1000 := by
  by_cases h : LeftOk C Wl pl ∧ pl.length = T.length
  · obtain ⟨rfl, rfl⟩ := h1.1 h
    rw [ansl_len]; omega
  · obtain ⟨rfl, rfl⟩ := h1.2 h
    simp
theorem same_ls (L : List Int) (hl : L.length ≤ 1000) (a b : Option Addr) (c d : Nat) (w : World) (h1 : Ls (.slice a L.length c) L w) (h2 : Ls (.slice b L.length d) L w) : Calls Try.prog 21 #[.slice a L.length c, .slice b L.length d] w fun e w' => e = .returned (.bool true) ∧ Below w.heap.size w w' :=
  (od.same_any L L hl hl a b c d w (ls_od h1) (ls_od h2)).mono fun e w' q => ⟨by rw [q.1, decide_eq_true rfl], q.2⟩
set_option maxRecDepth 100000 in
set_option maxHeartbeats 16000000 in
theorem kids_walk (kd N C : Int) (wl vl : List Int) (cl : List (List Int)) (wa va ca : Option Addr) (wn vn cn wc vc cc : Nat) (pl : List Int) (pa : Option Addr) (pn pc : Nat) (w : World) (h1 : Src w wa wn wc wl) (h2 : Src w va vn vc vl) (h3 : RSrc w ca cn cc cl) (h4 : Src w pa pn pc pl) :
    Calls Try.prog 4 #[.agg #[.int .i64 kd, .int .i64 N, .int .i64 C, .slice wa wn wc, .slice va vn vc, .slice ca cn cc], .slice pa pn pc] w fun e w' => e = .returned (.bool true) ∧ Below w.heap.size w w' := by
  have bA : Below w.heap.size w (w.alloc (.cells #[.int .i64 kd, .int .i64 N, .int .i64 C, .slice wa wn wc, .slice va vn vc, .slice ca cn cc] 25)) := bl_al (Below.refl _ _) _
  have HC := Lib.hid (refcopy_any kd N C wl vl cl wa va ca wn vn cn wc vc cc _ (h1.keep bA) (h2.keep bA) (h3.keep bA))
  have S4 := Lib.hid (h4.keep bA)
  have HB := Lib.hid bA
  have l1 : wl.length ≤ 1000 := by have := h1.1; omega
  have l2 : vl.length ≤ 1000 := by have := h2.1; omega
  have l3 : cl.length ≤ 1000 := by have := h3.1; omega
  have lp : pl.length ≤ 70 := by have := h4.1; omega
  have KS := Lib.hid (fun W => knaps_any W)
  clear h1 h2 h3 h4 bA
  go_enter Try.func4, Try.ntmps4
  go_wp2_with fail
  refine HC.out.mono ?_; rintro e w1 ⟨g1, k1, g2, k2, ca', cc', rfl, hb, i1, i2, rw⟩
  have q0 : w1.heap[w.heap.size]? = some (.cells #[.int .i64 kd, .int .i64 N, .int .i64 C, .slice wa wn wc, .slice va vn vc, .slice ca cn cc] 25 (0, 0)) := (hb.block _ (by simp)).trans (heap_alloc_new w _)
  have HQ0 := Lib.hid q0
  have PC := Lib.hid (pcut_src (S4.out.keep hb))
  have H1 := Lib.hid (And.intro i1 (And.intro i2 rw))
  have HB1 := Lib.hid (bl_tr HB.out hb)
  clear hb i1 i2 rw q0 HC HB S4
  go_wp2_with fail
  refine PC.out.mono ?_; rintro e x1 ⟨g3, k3, rfl, hx, ho⟩
  have QX := Lib.hid ((hx.block _ (lt_hp HQ0.out)).trans HQ0.out)
  have hcap : pl.length ≤ k3 ∧ k3 ≤ 9223372036854775807 := ⟨(src_of ho lp).2.1, (src_of ho lp).2.2.1⟩
  have P := put_copy (K := kd) (N := N) (C := C) (k1 := k1) (k2 := k2) (cc := cc') (Nat.le_refl _) QX.out (bl_tr HB1.out hx) (H1.out.1.keep hx) (H1.out.2.1.keep hx) (H1.out.2.2.keep hx) l1 l2 l3 _ rfl
  have PI : IntsO _ g3 pl := (ints_own rfl ho).same (six_other (w := x1) ((ints_own rfl ho).ne QX.out (by decide)) (.int .i64 kd) (.int .i64 N) (.int .i64 C) (.slice (some ⟨g1, 0, none⟩) wl.length k1) (.slice (some ⟨g2, 0, none⟩) vl.length k2) (.slice ca' cl.length cc'))
  have HP := Lib.hid P
  have HPI := Lib.hid PI
  obtain ⟨c0, c1, c2, c3, c4, c5⟩ := box6 QX.out
  have cf := fr6 QX.out
  clear P PI ho hx HB1 PC H1 HQ0 QX
  have FO := Lib.hid (fun h1 h2 => form_of (K := kd) (N := N) (C := C) (wl := wl) (vl := vl) (cl := cl) h1 h2)
  go_wp2_with fail
  clear c0 c1 c2 c3 c4 c5 cf
  generalize ((((((x1.setCell ⟨w.heap.size, 0, none⟩ (.int .i64 kd)).setCell ⟨w.heap.size, 1, none⟩ (.int .i64 N)).setCell ⟨w.heap.size, 2, none⟩ (.int .i64 C)).setCell ⟨w.heap.size, 3, none⟩ (.slice (some ⟨g1, 0, none⟩) wl.length k1)).setCell ⟨w.heap.size, 4, none⟩ (.slice (some ⟨g2, 0, none⟩) vl.length k2)).setCell ⟨w.heap.size, 5, none⟩ (.slice ca' cl.length cc')) = X at *
  have LPX := Lib.hid (ints_ls HPI.out hcap.1)
  refine (pcut_src (ints_src HPI.out hcap.1 hcap.2 lp)).mono ?_; rintro e w2 ⟨g4, k4, rfl, hb2, ho4⟩
  have LP := Lib.hid (LPX.out.up hb2)
  have LW := Lib.hid (show Ls (.slice (some ⟨g4, 0, none⟩) pl.length k4) pl w2 from Ol.ls ho4)
  have E2 := Lib.hid ((hb2.block _ (lt_hp HP.out.1)).trans HP.out.1)
  have PR := Lib.hid (show Prob w2 wl vl cl (some ⟨g1, 0, none⟩) (some ⟨g2, 0, none⟩) ca' from ⟨HP.out.2.1.1.keep hb2, HP.out.2.1.2.1.keep hb2, HP.out.2.1.2.2.1.keep hb2, l1, l2, l3⟩)
  have B2 := Lib.hid (bl_tr HP.out.2.2 hb2)
  have HNw := Lib.hid (new_any kd N C wl vl cl (some ⟨g1, 0, none⟩) (some ⟨g2, 0, none⟩) ca' k1 k2 cc' w2 PR.out.1 PR.out.2.1 PR.out.2.2.1 l1 l2 l3)
  clear hb2 ho4 hcap HP HPI LPX
  obtain ⟨c0, c1, c2, c3, c4, c5⟩ := box6 E2.out
  go_wp2_with fail
  clear c0 c1 c2 c3 c4 c5
  generalize hch : chk kd N C wl vl cl = ch at *
  have HCH := Lib.hid hch
  clear hch
  refine HNw.out.mono ?_; rintro e w3 hq
  rcases hq with ⟨hz, rfl, hb3⟩ | ⟨rfl, hK, rfl, hb3⟩ | ⟨rfl, rfl, p, T, rfl, hk, ho, hb3⟩
  · have B3 := Lib.hid (bl_tr B2.out hb3)
    have b2 : (ch != 0) = true := by simpa using hz
    clear hb3 HNw FO hz
    go_wp2_with fail
    refine (KS.out w3).mono ?_; rintro e w4 ⟨rfl, hb4⟩
    have B4 := Lib.hid (bl_tr B3.out hb4)
    clear hb4
    go_wp2_with fail
    refine (KS.out w4).mono ?_; rintro e w5 ⟨rfl, hb5⟩
    have B5 := Lib.hid (bl_tr B4.out hb5)
    clear hb5
    go_wp2
    go_ret
    exact ⟨rfl, B5.out⟩

  · have B3 := Lib.hid (bl_tr B2.out hb3)
    clear hb3 HNw FO hK
    go_wp2_with fail
    refine (KS.out w3).mono ?_; rintro e w4 ⟨rfl, hb4⟩
    have B4 := Lib.hid (bl_tr B3.out hb4)
    clear hb4
    go_wp2_with fail
    refine (KS.out w4).mono ?_; rintro e w5 ⟨rfl, hb5⟩
    have B5 := Lib.hid (bl_tr B4.out hb5)
    clear hb5
    go_wp2
    go_ret
    exact ⟨rfl, B5.out⟩

  · obtain ⟨hN, lv, n1, n2, c0', c1', io, l0⟩ := FO.out rfl rfl
    have OK := Lib.hid (ho.ok (C := C) n1 n2 lv c0' c1' io)
    have TL : T.length ≤ 64 := by rw [ho.rng.1]; exact n2
    have KD := Lib.hid (fun (Y : World) (hb : Below w3.heap.size w3 Y) => (kids_any OK.out (hk.up hb) (LP.out.up (bl_tr hb3 hb)) (by omega)).mono fun e w' q => lr_kd q)
    have RK := Lib.hid (fun (Y : World) (hb : Below w3.heap.size w3 Y) => (rkids_any 1 N C wl vl cl T pl (some ⟨g1, 0, none⟩) (some ⟨g2, 0, none⟩) ca' k1 k2 cc' _ Y (PR.out.1.keep (bl_tr hb3 hb)) (PR.out.2.1.keep (bl_tr hb3 hb)) hN lv n2 io ho OK.out (LW.out.up (bl_tr hb3 hb)) (by omega)).mono fun e w' q => lr_kd q)
    have KA := Lib.hid (fun (Y : World) (hb : Below w3.heap.size w3 Y) => (kans_any OK.out (hk.up hb) (LP.out.up (bl_tr hb3 hb)) (by omega)).mono fun e w' q => lr_an q)
    have RA := Lib.hid (fun (Y : World) (hb : Below w3.heap.size w3 Y) => (rans_any 1 N C wl vl cl T pl (some ⟨g1, 0, none⟩) (some ⟨g2, 0, none⟩) ca' k1 k2 cc' _ Y (PR.out.1.keep (bl_tr hb3 hb)) (PR.out.2.1.keep (bl_tr hb3 hb)) hN lv n2 io ho OK.out (LW.out.up (bl_tr hb3 hb)) (by omega)).mono fun e w' q => lr_an q)
    have SP := Lib.hid (fun (Y : World) (hb : Below w3.heap.size w3 Y) => same_ls pl (by omega) _ _ _ _ Y (LP.out.up (bl_tr hb3 hb)) (LW.out.up (bl_tr hb3 hb)))
    have BX := Lib.hid (fun (Y : World) (hb : Below w3.heap.size w3 Y) => box6 (((bl_tr hb3 hb).block _ (lt_hp E2.out)).trans E2.out))
    have B3 := Lib.hid (bl_tr B2.out hb3)
    clear hb3 HNw FO hN lv n1 n2 c0' c1' io l0 hk ho HCH E2 PR LP LW B2
    go_wp2_with fail
    refine (KS.out w3).mono ?_; rintro e w4 ⟨rfl, D4⟩
    replace D4 := Lib.hid D4
    go_wp2_with fail
    refine (KD.out w4 D4.out).mono ?_; rintro e w5 ⟨L, er, la, lc, kv, rfl, ll, hb5⟩
    have D5 := Lib.hid (bl_tr D4.out hb5)
    have HKV := Lib.hid kv
    have HLL := Lib.hid ll
    clear kv ll hb5
    obtain ⟨c0, c1, c2, c3, c4, c5⟩ := BX.out w5 D5.out
    go_wp2_with fail
    clear c0 c1 c2 c3 c4 c5
    refine (RK.out w5 D5.out).mono ?_; rintro e w6 ⟨M, er2, ma, mc, kv2, rfl, mm, hb6⟩
    obtain ⟨rfl, rfl⟩ := kd_one HKV.out kv2
    have D6 := Lib.hid (bl_tr D5.out hb6)
    have S1 := Lib.hid (fun (Y : World) (hb : Below w6.heap.size w6 Y) => same_ls M (kd_len HKV.out) la ma lc mc Y (HLL.out.up (bl_tr hb6 hb)) (mm.up hb))
    clear kv2 mm hb6 HLL HKV
    go_wp2_with fail
    refine (KA.out w6 D6.out).mono ?_; rintro e w7 ⟨L2, er3, la2, lc2, av, rfl, ll2, hb7⟩
    have D7 := Lib.hid (bl_tr D6.out hb7)
    have HAV := Lib.hid av
    have HLL2 := Lib.hid ll2
    have S2 := Lib.hid (fun (Y : World) (hb : Below w7.heap.size w7 Y) => S1.out Y (bl_tr hb7 hb))
    clear av ll2 hb7 S1
    obtain ⟨c0, c1, c2, c3, c4, c5⟩ := BX.out w7 D7.out
    go_wp2_with fail
    clear c0 c1 c2 c3 c4 c5
    refine (RA.out w7 D7.out).mono ?_; rintro e w8 ⟨M2, er4, ma2, mc2, av2, rfl, mm2, hb8⟩
    obtain ⟨rfl, rfl⟩ := an_one HAV.out av2
    have D8 := Lib.hid (bl_tr D7.out hb8)
    have S3 := Lib.hid (fun (Y : World) (hb : Below w8.heap.size w8 Y) => same_ls M2 (an_len TL HAV.out) la2 ma2 lc2 mc2 Y (HLL2.out.up (bl_tr hb8 hb)) (mm2.up hb))
    have S4 := Lib.hid (S2.out w8 hb8)
    clear av2 mm2 hb8 HLL2 HAV S2
    have z1 : (er2 == er2) = true := by simp
    have z2 : (er4 == er4) = true := by simp
    go_wp2_with fail
    refine S4.out.mono ?_; rintro e w9 ⟨rfl, hb9⟩
    have D9 := Lib.hid (bl_tr D8.out hb9)
    have S5 := Lib.hid (S3.out w9 hb9)
    clear hb9 S3 S4
    go_wp2_with fail
    refine S5.out.mono ?_; rintro e w10 ⟨rfl, hb10⟩
    have D10 := Lib.hid (bl_tr D9.out hb10)
    clear hb10 S5
    go_wp2_with fail
    refine (SP.out w10 D10.out).mono ?_; rintro e w11 ⟨rfl, hb11⟩
    have D11 := Lib.hid (bl_tr B3.out (bl_tr D10.out hb11))
    clear hb11
    go_wp2
    go_ret
    exact ⟨rfl, D11.out⟩
end Go.Proofs.Yteoionlnnjcggaa.kn

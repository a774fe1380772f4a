/-
  assign: AssignKids, walked.
-/
import Derived.Test.YtlhpiikpmmlpeaaDoorBa
import Derived.Test.YtlhpiikpmmlpeaaDoorBn
import Derived.Test.YtlhpiikpmmlpeaaDoorAx
namespace Go.Proofs.YtlhpiikpmmlpeaaDoor.kn
open Go.RowKit
set_option linter.unusedVariables false
set_option linter.unusedSimpArgs false
theorem ints_src {g cap : Nat} {l : List Int} {X : World} (h : IntsO X g l) (hc : l.length ≤ cap) (hm : cap ≤ 9223372036854775807) (hl : l.length ≤ 70) : Src X (some ⟨g, 0, none⟩) l.length cap l :=
  ⟨by omega, hc, hm, .inr ⟨g, 0, rfl, h.lt, fun j hj => by
    obtain ⟨b, o, e, _, m⟩ := h.ints j hj
    injection e with e
    injection e with e1 e2
    subst e1 e2
    exact m⟩⟩
/-- a list and an error, told by V -/
def LrP (V : List Int → Int → Prop) (w : World) (e : Ending) (w' : World) : Prop := ∃ (L : List Int) (er : Int) (la : Option Addr) (lc : Nat), V L er ∧ e = .returned (.tuple #[.slice la L.length lc, .int .i64 er]) ∧ od.Ints w' la L ∧ Below w.heap.size w w'
def KdV (n : Nat) (cl : List (List Int)) (p L : List Int) (er : Int) : Prop := (¬ Pre n p ∧ L = [] ∧ er = 1) ∨ (Pre n p ∧ p.length = n ∧ L = [] ∧ er = 0) ∨ (Pre n p ∧ p.length < n ∧ KidT (cl[p.length]?.getD []) (frl n p) L ∧ er = 0)
def AnV (n : Nat) (p L : List Int) (er : Int) : Prop := (¬ (Pre n p ∧ p.length = n) ∧ L = [] ∧ er = 1) ∨ ((Pre n p ∧ p.length = n) ∧ L = p ∧ er = 0)
theorem nil_od (W : World) : od.Ints W none [] := fun j hj => absurd hj (by simp)
theorem lr_kd {n : Nat} {cl : List (List Int)} {p : List Int} {w w' : World} {e : Ending} (h : KiP n cl p w e w') : LrP (KdV n cl p) w e w' := by
  rcases h with ⟨h1, rfl, h3⟩ | ⟨h1, h2, rfl, h3⟩ | ⟨h1, h2, g, cap, T, rfl, h4, h5⟩
  · exact ⟨[], 1, none, 0, .inl ⟨h1, rfl, rfl⟩, rfl, nil_od _, h3⟩
  · exact ⟨[], 0, none, 0, .inr (.inl ⟨h1, h2, rfl, rfl⟩), rfl, nil_od _, h3⟩
  · exact ⟨T, 0, _, cap, .inr (.inr ⟨h1, h2, h4, rfl⟩), rfl, h5.ints, h5.2.2.2⟩
theorem lr_an {n : Nat} {p : List Int} {w w' : World} {e : Ending} (h : AnP n p w e w') : LrP (AnV n p) w e w' := by
  rcases h with ⟨h1, rfl, h3⟩ | ⟨h1, h2, g, cap, rfl, h5⟩
  · exact ⟨[], 1, none, 0, .inl ⟨h1, rfl, rfl⟩, rfl, nil_od _, h3⟩
  · exact ⟨p, 0, _, cap, .inr ⟨⟨h1, h2⟩, rfl, rfl⟩, rfl, h5.ints, h5.2.2.2⟩
theorem kd_one {n : Nat} {cl : List (List Int)} {p L M : List Int} {a b : Int} (h1 : KdV n cl p L a) (h2 : KdV n cl p M b) : M = L ∧ b = a := by
  rcases h1 with ⟨x1, rfl, rfl⟩ | ⟨x1, x2, rfl, rfl⟩ | ⟨x1, x2, x3, rfl⟩ <;> rcases h2 with ⟨y1, rfl, rfl⟩ | ⟨y1, y2, rfl, rfl⟩ | ⟨y1, y2, y3, rfl⟩
  · exact ⟨rfl, rfl⟩
  · exact absurd y1 x1
  · exact absurd y1 x1
  · exact absurd x1 y1
  · exact ⟨rfl, rfl⟩
  · omega
  · exact absurd x1 y1
  · omega
  · exact ⟨y3.one x3, rfl⟩
theorem an_one {n : Nat} {p L M : List Int} {a b : Int} (h1 : AnV n p L a) (h2 : AnV n p M b) : M = L ∧ b = a := by
  rcases h1 with ⟨x1, rfl, rfl⟩ | ⟨x1, rfl, rfl⟩ <;> rcases h2 with ⟨y1, rfl, rfl⟩ | ⟨y1, rfl, rfl⟩
  · exact ⟨rfl, rfl⟩
  · exact absurd y1 x1
  · exact absurd x1 y1
  · exact ⟨rfl, rfl⟩
theorem kd_len {n : Nat} {cl : List (List Int)} {p L : List Int} {a : Int} (hn : n ≤ 24) (h : KdV n cl p L a) : L.length ≤ 1000 := by
  rcases h with ⟨_, rfl, _⟩ | ⟨_, _, rfl, _⟩ | ⟨_, _, x3, _⟩
  · simp
  · simp
  · rw [x3.len]; have := frl_len (by omega : n ≤ 128) p; omega
theorem an_len {n : Nat} {p L : List Int} {a : Int} (hn : p.length ≤ 70) (h : AnV n p L a) : L.length ≤ 1000 := by
  rcases h with ⟨_, rfl, _⟩ | ⟨_, rfl, _⟩
  · simp
  · omega
theorem same_ls (L : List Int) (hl : L.length ≤ 1000) (a b : Option Addr) (c d : Nat) (w : World) (h1 : od.Ints w a L) (h2 : od.Ints w b L) : Calls Tryd.prog 26 #[.slice a L.length c, .slice b L.length d] w fun e w' => e = .returned (.bool true) ∧ Below w.heap.size w w' :=
  (od.same_any L L hl hl a b c d w h1 h2).mono fun e w' q => ⟨by rw [q.1]; simp, q.2⟩
set_option maxRecDepth 100000 in
set_option maxHeartbeats 16000000 in
theorem kids_walk (kd N C : Int) (wl vl : List Int) (cl : List (List Int)) (wa va ca : Option Addr) (wn vn cn wc vc cc : Nat) (pl : List Int) (pa : Option Addr) (pn pc : Nat) (w : World) (hT : st.T64 w) (h1 : Src w wa wn wc wl) (h2 : Src w va vn vc vl) (h3 : RSrc w ca cn cc cl) (h4 : Src w pa pn pc pl) :
    Calls Tryd.prog 4 #[.agg #[.int .i64 kd, .int .i64 N, .int .i64 C, .slice wa wn wc, .slice va vn vc, .slice ca cn cc], .slice pa pn pc] w fun e w' => e = .returned (.bool true) ∧ Below w.heap.size w w' := by
  have bA : Below w.heap.size w (w.alloc (.cells #[.int .i64 kd, .int .i64 N, .int .i64 C, .slice wa wn wc, .slice va vn vc, .slice ca cn cc] 25)) := bl_al (Below.refl _ _) _
  have HC := Lib.hid (refcopy_any kd N C wl vl cl wa va ca wn vn cn wc vc cc _ (h1.keep bA) (h2.keep bA) (h3.keep bA))
  have S4 := Lib.hid (h4.keep bA)
  have HB := Lib.hid bA
  have l1 : wl.length ≤ 1000 := by have := h1.1; omega
  have l2 : vl.length ≤ 1000 := by have := h2.1; omega
  have l3 : cl.length ≤ 1000 := by have := h3.1; omega
  have lp : pl.length ≤ 70 := by have := h4.1; omega
  have KS := Lib.hid (fun (W : World) (hb : Below w.heap.size w W) => assigns_any W (hT.keep hb))
  have HT := Lib.hid hT
  clear h1 h2 h3 h4 bA hT
  go_enter Tryd.func4, Tryd.ntmps4
  go_wp2_with fail
  refine HC.out.mono ?_; rintro e w1 ⟨g1, k1, g2, k2, ca', cc', rfl, hb, i1, i2, rw, -⟩
  have q0 : w1.heap[w.heap.size]? = some (.cells #[.int .i64 kd, .int .i64 N, .int .i64 C, .slice wa wn wc, .slice va vn vc, .slice ca cn cc] 25 (0, 0)) := (hb.block _ (by simp)).trans (heap_alloc_new w _)
  have HQ0 := Lib.hid q0
  have PC := Lib.hid (pcut_src (S4.out.keep hb))
  have H1 := Lib.hid (And.intro i1 (And.intro i2 rw))
  have HB1 := Lib.hid (bl_tr HB.out hb)
  clear hb i1 i2 rw q0 HC HB S4
  go_wp2_with fail
  refine PC.out.mono ?_; rintro e x1 ⟨g3, k3, rfl, hx, ho⟩
  have QX := Lib.hid ((hx.block _ (lt_hp HQ0.out)).trans HQ0.out)
  have hcap : pl.length ≤ k3 ∧ k3 ≤ 9223372036854775807 := ⟨(src_of ho lp).2.1, (src_of ho lp).2.2.1⟩
  have P := put_copy (K := kd) (N := N) (C := C) (k1 := k1) (k2 := k2) (cc := cc') (Nat.le_refl _) QX.out (bl_tr HB1.out hx) (H1.out.1.keep hx) (H1.out.2.1.keep hx) (H1.out.2.2.keep hx) l1 l2 l3 _ rfl
  have PI : IntsO _ g3 pl := (ints_own rfl ho).same (six_other (w := x1) ((ints_own rfl ho).ne QX.out (by decide)) (.int .i64 kd) (.int .i64 N) (.int .i64 C) (.slice (some ⟨g1, 0, none⟩) wl.length k1) (.slice (some ⟨g2, 0, none⟩) vl.length k2) (.slice ca' cl.length cc'))
  have HP := Lib.hid P
  have HPI := Lib.hid PI
  obtain ⟨c0, c1, c2, c3, c4, c5⟩ := box6 QX.out
  have cf := fr6 QX.out
  clear P PI ho hx HB1 PC H1 HQ0 QX
  go_wp2_with fail
  clear c0 c1 c2 c3 c4 c5 cf
  generalize ((((((x1.setCell ⟨w.heap.size, 0, none⟩ (.int .i64 kd)).setCell ⟨w.heap.size, 1, none⟩ (.int .i64 N)).setCell ⟨w.heap.size, 2, none⟩ (.int .i64 C)).setCell ⟨w.heap.size, 3, none⟩ (.slice (some ⟨g1, 0, none⟩) wl.length k1)).setCell ⟨w.heap.size, 4, none⟩ (.slice (some ⟨g2, 0, none⟩) vl.length k2)).setCell ⟨w.heap.size, 5, none⟩ (.slice ca' cl.length cc')) = X at *
  have HCP := Lib.hid hcap
  have LPX := Lib.hid HPI.out
  refine (pcut_src (ints_src HPI.out hcap.1 hcap.2 lp)).mono ?_; rintro e w2 ⟨g4, k4, rfl, hb2, ho4⟩
  have LP := Lib.hid (LPX.out.keep hb2)
  have LW := Lib.hid (show IntsO w2 g4 pl from ints_own rfl ho4)
  have HC4 := Lib.hid (And.intro (src_of ho4 lp).2.1 (src_of ho4 lp).2.2.1)
  have E2 := Lib.hid ((hb2.block _ (lt_hp HP.out.1)).trans HP.out.1)
  have PR := Lib.hid (show Prob w2 wl vl cl (some ⟨g1, 0, none⟩) (some ⟨g2, 0, none⟩) ca' from ⟨HP.out.2.1.1.keep hb2, HP.out.2.1.2.1.keep hb2, HP.out.2.1.2.2.1.keep hb2, l1, l2, l3⟩)
  have B2 := Lib.hid (bl_tr HP.out.2.2 hb2)
  have HNw := Lib.hid (new_any kd N C wl vl cl (some ⟨g1, 0, none⟩) (some ⟨g2, 0, none⟩) ca' k1 k2 cc' w2 PR.out)
  clear hb2 ho4 hcap HP HPI LPX
  obtain ⟨c0, c1, c2, c3, c4, c5⟩ := box6 E2.out
  go_wp2_with fail
  clear c0 c1 c2 c3 c4 c5
  obtain ⟨ch, hch⟩ : ∃ ch, ch = chk kd N C wl vl cl := ⟨_, rfl⟩
  have HCH := Lib.hid hch
  clear hch
  refine HNw.out.mono ?_; rintro e w3 hq
  unfold NaP at hq
  rw [← HCH.out] at hq
  rcases hq with ⟨hz, rfl, hb3⟩ | ⟨rfl, hK, rfl, hb3⟩ | ⟨rfl, rfl, b, n, hNn, hln, rfl, hb3, hk⟩
  · have B3 := Lib.hid (bl_tr B2.out hb3)
    have b2 : (ch != 0) = true := by simpa using hz
    clear hb3 HNw hz
    go_wp2_with fail
    refine (KS.out w3 B3.out).mono ?_; rintro e w4 ⟨rfl, hb4⟩
    have B4 := Lib.hid (bl_tr B3.out hb4)
    clear hb4
    go_wp2_with fail
    refine (KS.out w4 B4.out).mono ?_; rintro e w5 ⟨rfl, hb5⟩
    have B5 := Lib.hid (bl_tr B4.out hb5)
    clear hb5
    go_wp2
    go_ret
    exact ⟨rfl, B5.out⟩

  · have B3 := Lib.hid (bl_tr B2.out hb3)
    clear hb3 HNw hK
    go_wp2_with fail
    refine (KS.out w3 B3.out).mono ?_; rintro e w4 ⟨rfl, hb4⟩
    have B4 := Lib.hid (bl_tr B3.out hb4)
    clear hb4
    go_wp2_with fail
    refine (KS.out w4 B4.out).mono ?_; rintro e w5 ⟨rfl, hb5⟩
    have B5 := Lib.hid (bl_tr B4.out hb5)
    clear hb5
    go_wp2
    go_ret
    exact ⟨rfl, B5.out⟩

  · subst hln hNn
    obtain ⟨z1, z2⟩ := chk_rw HCH.out.symm
    obtain ⟨z3, _, z5⟩ := z2 (by decide)
    have n1 : 1 ≤ cl.length := by omega
    have n24 : cl.length ≤ 24 := by omega
    have KD := Lib.hid (fun (Y : World) (hb : Below w3.heap.size w3 Y) => (kids_any pl (by omega) (some ⟨g3, 0, none⟩) k3 Y (HT.out.keep (bl_tr B2.out (bl_tr hb3 hb))) (hk.keep hb) (LP.out.keep (bl_tr hb3 hb)).ints).mono fun e w' q => lr_kd q)
    have RK := Lib.hid (fun (Y : World) (hb : Below w3.heap.size w3 Y) => (rkids_any 2 C cl.length n1 n24 cl rfl z5 pl (by omega) (some ⟨g4, 0, none⟩) k4 (.slice (some ⟨g1, 0, none⟩) wl.length k1) (.slice (some ⟨g2, 0, none⟩) vl.length k2) ca' cc' Y (LW.out.keep (bl_tr hb3 hb)).ints (PR.out.2.2.1.keep (bl_tr hb3 hb))).mono fun e w' q => lr_kd q)
    have KA := Lib.hid (fun (Y : World) (hb : Below w3.heap.size w3 Y) => (answer_any pl (by omega) g3 0 k3 Y (hk.keep hb) (LP.out.keep (bl_tr hb3 hb)).ints (LP.out.keep (bl_tr hb3 hb)).lt HCP.out).mono fun e w' q => lr_an q)
    have RA := Lib.hid (fun (Y : World) (hb : Below w3.heap.size w3 Y) => (rans_any 2 C cl.length n1 n24 pl (by omega) g4 0 k4 (.slice (some ⟨g1, 0, none⟩) wl.length k1) (.slice (some ⟨g2, 0, none⟩) vl.length k2) (.slice ca' cl.length cc') Y (LW.out.keep (bl_tr hb3 hb)).ints (LW.out.keep (bl_tr hb3 hb)).lt HC4.out).mono fun e w' q => lr_an q)
    have SP := Lib.hid (fun (Y : World) (hb : Below w3.heap.size w3 Y) => same_ls pl (by omega) (some ⟨g3, 0, none⟩) (some ⟨g4, 0, none⟩) k3 k4 Y (od_ints (LP.out.keep (bl_tr hb3 hb)).ints) (od_ints (LW.out.keep (bl_tr hb3 hb)).ints))
    have BX := Lib.hid (fun (Y : World) (hb : Below w3.heap.size w3 Y) => box6 (((bl_tr hb3 hb).block _ (lt_hp E2.out)).trans E2.out))
    have B3 := Lib.hid (bl_tr B2.out hb3)
    have KS3 := Lib.hid (KS.out w3 B3.out)
    have N24 := Lib.hid n24
    clear hb3 HNw z1 z2 z3 z5 n1 n24 hk HCH E2 PR LP LW B2 KS HT HCP HC4
    go_wp2_with fail
    refine KS3.out.mono ?_; rintro e w4 ⟨rfl, D4⟩
    replace D4 := Lib.hid D4
    go_wp2_with fail
    refine (KD.out w4 D4.out).mono ?_; rintro e w5 ⟨L, er, la, lc, kv, rfl, ll, hb5⟩
    have D5 := Lib.hid (bl_tr D4.out hb5)
    have HKV := Lib.hid kv
    have HLL := Lib.hid ll
    clear kv ll hb5
    obtain ⟨c0, c1, c2, c3, c4, c5⟩ := BX.out w5 D5.out
    go_wp2_with fail
    clear c0 c1 c2 c3 c4 c5
    refine (RK.out w5 D5.out).mono ?_; rintro e w6 ⟨M, er2, ma, mc, kv2, rfl, mm, hb6⟩
    obtain ⟨rfl, rfl⟩ := kd_one HKV.out kv2
    have D6 := Lib.hid (bl_tr D5.out hb6)
    have S1 := Lib.hid (fun (Y : World) (hb : Below w6.heap.size w6 Y) => same_ls M (kd_len N24.out HKV.out) la ma lc mc Y (HLL.out.keep (bl_tr hb6 hb)) (mm.keep hb))
    clear kv2 mm hb6 HLL HKV
    go_wp2_with fail
    refine (KA.out w6 D6.out).mono ?_; rintro e w7 ⟨L2, er3, la2, lc2, av, rfl, ll2, hb7⟩
    have D7 := Lib.hid (bl_tr D6.out hb7)
    have HAV := Lib.hid av
    have HLL2 := Lib.hid ll2
    have S2 := Lib.hid (fun (Y : World) (hb : Below w7.heap.size w7 Y) => S1.out Y (bl_tr hb7 hb))
    clear av ll2 hb7 S1
    obtain ⟨c0, c1, c2, c3, c4, c5⟩ := BX.out w7 D7.out
    go_wp2_with fail
    clear c0 c1 c2 c3 c4 c5
    refine (RA.out w7 D7.out).mono ?_; rintro e w8 ⟨M2, er4, ma2, mc2, av2, rfl, mm2, hb8⟩
    obtain ⟨rfl, rfl⟩ := an_one HAV.out av2
    have D8 := Lib.hid (bl_tr D7.out hb8)
    have S3 := Lib.hid (fun (Y : World) (hb : Below w8.heap.size w8 Y) => same_ls M2 (an_len lp HAV.out) la2 ma2 lc2 mc2 Y (HLL2.out.keep (bl_tr hb8 hb)) (mm2.keep hb))
    have S4 := Lib.hid (S2.out w8 hb8)
    clear av2 mm2 hb8 HLL2 HAV S2
    have z1 : (er2 == er2) = true := by simp
    have z2 : (er4 == er4) = true := by simp
    go_wp2_with fail
    refine S4.out.mono ?_; rintro e w9 ⟨rfl, hb9⟩
    have D9 := Lib.hid (bl_tr D8.out hb9)
    have S5 := Lib.hid (S3.out w9 hb9)
    clear hb9 S3 S4
    go_wp2_with fail
    refine S5.out.mono ?_; rintro e w10 ⟨rfl, hb10⟩
    have D10 := Lib.hid (bl_tr D9.out hb10)
    clear hb10 S5
    go_wp2_with fail
    refine (SP.out w10 D10.out).mono ?_; rintro e w11 ⟨rfl, hb11⟩
    have D11 := Lib.hid (bl_tr B3.out (bl_tr D10.out hb11))
    clear hb11
    go_wp2
    go_ret
    exact ⟨rfl, D11.out⟩
end Go.Proofs.YtlhpiikpmmlpeaaDoor.kn

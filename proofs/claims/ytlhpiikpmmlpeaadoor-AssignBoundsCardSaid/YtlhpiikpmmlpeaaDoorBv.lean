/-
  assign: AssignBounds, walked.
-/
import Derived.Test.YtlhpiikpmmlpeaaDoorBu
namespace Go.Proofs.YtlhpiikpmmlpeaaDoor.kn
open Go.RowKit
set_option linter.unusedVariables false
set_option linter.unusedSimpArgs false
set_option maxRecDepth 100000 in
set_option maxHeartbeats 16000000 in
theorem bounds_walk (kd N C : Int) (wl vl : List Int) (cl : List (List Int)) (wa va ca : Option Addr) (wn vn cn wc vc cc : Nat) (pl : List Int) (pa : Option Addr) (pn pc : Nat) (w : World) (hT : st.T64 w) (h1 : Src w wa wn wc wl) (h2 : Src w va vn vc vl) (h3 : RSrc w ca cn cc cl) (h4 : Src w pa pn pc pl) :
    Calls Tryd.prog 5 #[.agg #[.int .i64 kd, .int .i64 N, .int .i64 C, .slice wa wn wc, .slice va vn vc, .slice ca cn cc], .slice pa pn pc] w fun e w' => e = .returned (.bool true) ∧ Below w.heap.size w w' := by
  have bA : Below w.heap.size w (w.alloc (.cells #[.int .i64 kd, .int .i64 N, .int .i64 C, .slice wa wn wc, .slice va vn vc, .slice ca cn cc] 25)) := bl_al (Below.refl _ _) _
  have HC := Lib.hid (refcopy_any kd N C wl vl cl wa va ca wn vn cn wc vc cc _ (h1.keep bA) (h2.keep bA) (h3.keep bA))
  have S4 := Lib.hid (h4.keep bA)
  have HB := Lib.hid bA
  have l1 : wl.length ≤ 70 := by have := h1.1; omega
  have l2 : vl.length ≤ 70 := by have := h2.1; omega
  have l3 := (rsrc_rows h3).1
  have HRR := Lib.hid (rsrc_rows h3).2
  have lp : pl.length ≤ 70 := by have := h4.1; omega
  have KS := Lib.hid (fun (W : World) (hb : Below w.heap.size w W) => assigns_any W (hT.keep hb))
  have HT := Lib.hid hT
  clear h1 h2 h3 h4 bA hT
  go_enter Tryd.func5, Tryd.ntmps5
  go_wp2_with fail
  refine HC.out.mono ?_; rintro e w1 ⟨g1, k1, g2, k2, ca', cc', rfl, hb, i1, i2, rw, p1, p2, p3, p4, -⟩
  have q0 : w1.heap[w.heap.size]? = some (.cells #[.int .i64 kd, .int .i64 N, .int .i64 C, .slice wa wn wc, .slice va vn vc, .slice ca cn cc] 25 (0, 0)) := (hb.block _ (by simp)).trans (heap_alloc_new w _)
  have HQ0 := Lib.hid q0
  have PC := Lib.hid (pcut_src (S4.out.keep hb))
  have H1 := Lib.hid (And.intro i1 (And.intro i2 rw))
  have HB1 := Lib.hid (bl_tr HB.out hb)
  have HI1 := Lib.hid (RwsO.rwsI rw)
  have CP := Lib.hid (And.intro p1 (And.intro p2 (And.intro p3 p4)))
  clear hb i1 i2 rw q0 HC HB S4
  go_wp2_with fail
  refine PC.out.mono ?_; rintro e x1 ⟨g3, k3, rfl, hx, ho⟩
  have QX := Lib.hid ((hx.block _ (lt_hp HQ0.out)).trans HQ0.out)
  have hcap : pl.length ≤ k3 ∧ k3 ≤ 9223372036854775807 := ⟨(src_of ho lp).2.1, (src_of ho lp).2.2.1⟩
  have hg3 : w1.heap.size ≤ g3 := by
    rcases ho.2 with ⟨h', _⟩ | ⟨g', cap', cur, h', hg, _⟩
    · cases h'
    · injection h' with h' _ _
      injection h' with h'
      injection h' with h' _ _
      omega
  have P := put_copy (K := kd) (N := N) (C := C) (k1 := k1) (k2 := k2) (cc := cc') (Nat.le_refl _) QX.out (bl_tr HB1.out hx) (H1.out.1.keep hx) (H1.out.2.1.keep hx) (H1.out.2.2.keep hx) (by omega) (by omega) (by omega) _ rfl
  have XO : ∀ k, k ≠ w.heap.size → _ = _ := fun k hk => six_other (w := x1) hk (.int .i64 kd) (.int .i64 N) (.int .i64 C) (.slice (some ⟨g1, 0, none⟩) wl.length k1) (.slice (some ⟨g2, 0, none⟩) vl.length k2) (.slice ca' cl.length cc')
  have PI : IntsO _ g3 pl := (ints_own rfl ho).same (six_other (w := x1) ((ints_own rfl ho).ne QX.out (by decide)) (.int .i64 kd) (.int .i64 N) (.int .i64 C) (.slice (some ⟨g1, 0, none⟩) wl.length k1) (.slice (some ⟨g2, 0, none⟩) vl.length k2) (.slice ca' cl.length cc'))
  have PR : RwsI _ _ _ ca' cl := (HI1.out.keep hx).other QX.out XO
  have PA := ((H1.out.1.keep hx).same (XO _ ((H1.out.1.keep hx).ne QX.out (by decide))))
  have PB := ((H1.out.2.1.keep hx).same (XO _ ((H1.out.2.1.keep hx).ne QX.out (by decide))))
  have PO := (H1.out.2.2.keep hx).other QX.out XO
  have HP := Lib.hid P
  have HPI := Lib.hid PI
  have HPR := Lib.hid PR
  have HS1 : Hid (w1.heap.size ≤ ((((((x1.setCell ⟨w.heap.size, 0, none⟩ (.int .i64 kd)).setCell ⟨w.heap.size, 1, none⟩ (.int .i64 N)).setCell ⟨w.heap.size, 2, none⟩ (.int .i64 C)).setCell ⟨w.heap.size, 3, none⟩ (.slice (some ⟨g1, 0, none⟩) wl.length k1)).setCell ⟨w.heap.size, 4, none⟩ (.slice (some ⟨g2, 0, none⟩) vl.length k2)).setCell ⟨w.heap.size, 5, none⟩ (.slice ca' cl.length cc')).heap.size) := Lib.hid (by have := hx.size; simpa using this)
  have HPA := Lib.hid (And.intro PA (And.intro PB PO))
  have HG3 := Lib.hid (And.intro hg3 (And.intro hx.size hcap))
  obtain ⟨c0, c1, c2, c3, c4, c5⟩ := box6 QX.out
  have cf := fr6 QX.out
  clear P PI PR XO PA PB PO ho hx HB1 PC H1 HQ0 QX HI1 hg3 hcap
  go_wp2_with fail
  clear c0 c1 c2 c3 c4 c5 cf
  generalize ((((((x1.setCell ⟨w.heap.size, 0, none⟩ (.int .i64 kd)).setCell ⟨w.heap.size, 1, none⟩ (.int .i64 N)).setCell ⟨w.heap.size, 2, none⟩ (.int .i64 C)).setCell ⟨w.heap.size, 3, none⟩ (.slice (some ⟨g1, 0, none⟩) wl.length k1)).setCell ⟨w.heap.size, 4, none⟩ (.slice (some ⟨g2, 0, none⟩) vl.length k2)).setCell ⟨w.heap.size, 5, none⟩ (.slice ca' cl.length cc')) = X at *
  have HC2 := Lib.hid (refcopy_any kd N C wl vl cl (some ⟨g1, 0, none⟩) (some ⟨g2, 0, none⟩) ca' wl.length vl.length cl.length k1 k2 cc' X (HPA.out.1.src l1 CP.out.1) (HPA.out.2.1.src l2 CP.out.2.1) (HPA.out.2.2.rsrc l3 HRR.out CP.out.2.2.1 CP.out.2.2.2))
  obtain ⟨c0, c1, c2, c3, c4, c5⟩ := box6 HP.out.1
  clear HPA CP HRR
  go_wp2_with fail
  refine HC2.out.mono ?_; rintro e w2 ⟨h1, m1, h2, m2, cb, cd, rfl, hb2, j1, j2, rw2, -⟩
  have HQ : Hid ((w2.alloc (.cells #[.int .i64 kd, .int .i64 N, .int .i64 C, .slice (some ⟨h1, 0, none⟩) wl.length m1, .slice (some ⟨h2, 0, none⟩) vl.length m2, .slice cb cl.length cd] 25)).heap[w2.heap.size]? = some (.cells #[.int .i64 kd, .int .i64 N, .int .i64 C, .slice (some ⟨h1, 0, none⟩) wl.length m1, .slice (some ⟨h2, 0, none⟩) vl.length m2, .slice cb cl.length cd] 25 (0, 0)) ∧ Below X.heap.size X (w2.alloc (.cells #[.int .i64 kd, .int .i64 N, .int .i64 C, .slice (some ⟨h1, 0, none⟩) wl.length m1, .slice (some ⟨h2, 0, none⟩) vl.length m2, .slice cb cl.length cd] 25)) ∧ RwsO X.heap.size (w2.alloc (.cells #[.int .i64 kd, .int .i64 N, .int .i64 C, .slice (some ⟨h1, 0, none⟩) wl.length m1, .slice (some ⟨h2, 0, none⟩) vl.length m2, .slice cb cl.length cd] 25)) cb cl) := Lib.hid ⟨heap_alloc_new w2 _, bl_al hb2 _, RwsO.keep rw2 (bl_al (Below.refl _ _) _)⟩
  clear c0 c1 c2 c3 c4 c5 hb2 j1 j2 rw2 HC2
  go_upto_region 3 with fail
  generalize (w2.alloc (.cells #[.int .i64 kd, .int .i64 N, .int .i64 C, .slice (some ⟨h1, 0, none⟩) wl.length m1, .slice (some ⟨h2, 0, none⟩) vl.length m2, .slice cb cl.length cd] 25)) = Y at *
  have E2 := Lib.hid ((HQ.out.2.1.block _ (lt_hp HP.out.1)).trans HP.out.1)
  have PR := Lib.hid (HP.out.2.1.keep HQ.out.2.1)
  have B2 := Lib.hid (bl_tr HP.out.2.2 HQ.out.2.1)
  have HNw := Lib.hid (new_any kd N C wl vl cl (some ⟨g1, 0, none⟩) (some ⟨g2, 0, none⟩) ca' k1 k2 cc' Y PR.out)
  obtain ⟨c0, c1, c2, c3, c4, c5⟩ := box6 E2.out
  go_wp2_with fail
  clear c0 c1 c2 c3 c4 c5
  obtain ⟨ch, hch⟩ : ∃ ch, ch = chk kd N C wl vl cl := ⟨_, rfl⟩
  have HCH := Lib.hid hch
  clear hch
  refine HNw.out.mono ?_; rintro e w3 hq
  unfold NaP at hq
  rw [← HCH.out] at hq
  rcases hq with ⟨hz, rfl, hb3⟩ | ⟨rfl, hK, rfl, hb3⟩ | ⟨rfl, rfl, b, n, hNn, hln, rfl, hb3, hk⟩
  · have B3 := Lib.hid (bl_tr B2.out hb3)
    have b2 : (ch != 0) = true := by simpa using hz
    clear hb3 HNw hz
    go_wp2_with fail
    refine (KS.out w3 B3.out).mono ?_; rintro e w4 ⟨rfl, hb4⟩
    have B4 := Lib.hid (bl_tr B3.out hb4)
    clear hb4
    go_wp2_with fail
    refine (KS.out w4 B4.out).mono ?_; rintro e w5 ⟨rfl, hb5⟩
    have B5 := Lib.hid (bl_tr B4.out hb5)
    clear hb5
    go_wp2
    go_ret
    exact ⟨rfl, B5.out⟩
  · have B3 := Lib.hid (bl_tr B2.out hb3)
    clear hb3 HNw hK
    go_wp2_with fail
    refine (KS.out w3 B3.out).mono ?_; rintro e w4 ⟨rfl, hb4⟩
    have B4 := Lib.hid (bl_tr B3.out hb4)
    clear hb4
    go_wp2_with fail
    refine (KS.out w4 B4.out).mono ?_; rintro e w5 ⟨rfl, hb5⟩
    have B5 := Lib.hid (bl_tr B4.out hb5)
    clear hb5
    go_wp2
    go_ret
    exact ⟨rfl, B5.out⟩
  · subst hln hNn
    obtain ⟨z1, z2⟩ := chk_rw HCH.out.symm
    obtain ⟨z3, _, z5⟩ := z2 (by decide)
    obtain ⟨hE, zw, -⟩ := zr.ent_of HCH.out.symm
    have n1 : 1 ≤ cl.length := by omega
    have n24 : cl.length ≤ 24 := by omega
    have B3 := Lib.hid (bl_tr B2.out hb3)
    have KS3 := Lib.hid (KS.out w3 B3.out)
    clear HNw
    go_wp2_with fail
    refine KS3.out.mono ?_; rintro e w4 ⟨rfl, hb4⟩
    -- what holds at w4
    have b34 := bl_tr hb3 hb4
    have b04 := bl_tr HQ.out.2.1 b34
    obtain ⟨S, hS⟩ : ∃ S, S = List.range' (w.heap.size + 1) (w1.heap.size - (w.heap.size + 1)) := ⟨_, rfl⟩
    have hSi : ∀ g, w.heap.size + 1 ≤ g → g < w1.heap.size → g ∈ S := fun g h h' => by rw [hS, List.mem_range'_1]; omega
    have hSo : ∀ i, i ∈ S → w.heap.size + 1 ≤ i ∧ i < w1.heap.size := fun i h => by rw [hS, List.mem_range'_1] at h; omega
    clear hS
    have hw1X := HS1.out
    have hw1Y : w1.heap.size ≤ Y.heap.size := Nat.le_trans hw1X HQ.out.2.1.size
    have hg3 : g3 ∉ S := fun h => by have := hSo _ h; have := HG3.out.1; omega
    have B4 := bl_tr B3.out hb4
    have RI : RwsI (w.heap.size + 1) w1.heap.size w4 ca' cl := by
      have := HPR.out
      simp only [World.size_alloc] at this
      exact this.keep (b04.mono hw1X)
    have HBX := Lib.hid (fun W (h : SL S w4 W) => box6 (h.oth w.heap.size _ 25 (by decide) ((b34.block _ (lt_hp E2.out)).trans E2.out)))
    have HBQ := Lib.hid (fun W (h : SL S w4 W) => box6 (h.oth w2.heap.size _ 25 (by decide) ((b34.block _ (lt_hp HQ.out.1)).trans HQ.out.1)))
    have HRow := Lib.hid (fun W (h : SL S w4 W) j (hj : j < cl.length) => h.row RI hSi hj (by rw [z5 j hj]; omega))
    have HW := Lib.hid (fun W (h : SL S w4 W) => Tw.below B4 h.tw (fun i hi => by have := hSo i hi; omega) B4.size)
    have HBd := Lib.hid (fun W (h : SL S w4 W) => (bound_any pl (by omega) (some ⟨g3, 0, none⟩) k3 W (HT.out.keep (HW.out W h)) (h.ak (hk.keep hb4) (fun i hi => by have := hSo i hi; omega)) (h.ints (HPI.out.keep b04) hg3).ints hE).mono fun e w' q => bd_v q)
    have HRd := Lib.hid (fun W (h : SL S w4 W) W' (hb : Below W.heap.size W W') => (rbound_any 2 C cl.length n1 n24 cl rfl z5 hE pl (by omega) (some ⟨g3, 0, none⟩) k3 (.slice (some ⟨h1, 0, none⟩) wl.length m1) (.slice (some ⟨h2, 0, none⟩) vl.length m2) cb cd W' ((h.ints (HPI.out.keep b04) hg3).ints.keep hb) ((h.rws (HQ.out.2.2.keep b34) (fun i hi => by have := hSo i hi; omega)).rws.keep hb)).mono fun e w' q => bd_v q)
    have HBE := Lib.hid (fun W (h : SL S w4 W) W' (hb : Below W.heap.size W W') => box6 ((hb.block _ (lt_hp (h.oth w2.heap.size _ 25 (by decide) ((b34.block _ (lt_hp HQ.out.1)).trans HQ.out.1)))).trans (h.oth w2.heap.size _ 25 (by decide) ((b34.block _ (lt_hp HQ.out.1)).trans HQ.out.1))))
    have S0 := Lib.hid (SL.refl S w4)
    have HZ5 := Lib.hid z5
    rw [zw] at HBX
    clear b34 b04 hb3 hb4 hk hE z1 z2 z3 z5 hSi hSo hg3 hw1X hw1Y RI E2 PR B2 B3 KS KS3 HT HPR HPI HG3 HS1 HQ HP HCH B4 zw
    have zz : (0 : Int) ≤ 0 := Int.le_refl _
    obtain ⟨c0, c1, c2, c3, c4, c5⟩ := HBX.out w4 S0.out
    go_wp2
    go_loopw [8] (fun i wr => i = .int .i64 0 ∧ wr = w4) (fun i _ => 0)
    case atStart => exact ⟨rfl, rfl⟩
    case round =>
      obtain ⟨rfl, hw⟩ := hrel
      obtain rfl := hw.symm
      go_wp2
      clear c0 c1 c2 c3 c4 c5 zz
      go_loopw [9] (fun r wr => ∃ k : Nat, k ≤ cl.length ∧ r = .int .i64 k ∧ Hid (SL S w4 wr)) (fun r _ => cl.length - (intOf r).toNat)
      case atStart => exact ⟨0, by omega, rfl, S0⟩
      case round =>
        clear S0
        obtain ⟨k, hk, rfl, HS⟩ := hrel
        obtain ⟨c0, c1, c2, c3, c4, c5⟩ := HBX.out _ HS.out
        by_cases hlt : k < cl.length
        · obtain ⟨g, a, c, v, rfl, m1, m2, m3, m4⟩ := HRow.out _ HS.out k hlt
          rw [HZ5.out k hlt] at m1
          have N := Lib.hid (m4 (.int .i64 9))
          have r1 : (k : Int) < (cl.length : Int) := by omega
          have r0 : (0 : Int) ≤ (k : Int) := by omega
          have r2 : (0 : Int) < (cl.length : Int) := by omega
          clear m4
          go_wp2
          go_roundw
          case rel => exact ⟨k + 1, by omega, by go_num, N⟩
          case measure => simp [intOf]; omega
        · obtain rfl : k = cl.length := by omega
          have BD := Lib.hid (HBd.out _ HS.out)
          have RD := Lib.hid (fun W hb => HRd.out _ HS.out W hb)
          have BE := Lib.hid (fun W hb => HBE.out _ HS.out W hb)
          have BW := Lib.hid (HW.out _ HS.out)
          clear HS HBd HRd HBE HW HBX HBQ HRow
          go_wp2_with fail
          refine BD.out.mono ?_; rintro e w5 ⟨x, y, V, rfl, hb5⟩
          have HV := Lib.hid V
          have D5 := Lib.hid (bl_tr BW.out hb5)
          have RD5 := Lib.hid (RD.out w5 hb5)
          clear c0 c1 c2 c3 c4 c5
          obtain ⟨c0, c1, c2, c3, c4, c5⟩ := BE.out w5 hb5
          clear V hb5 RD BD BE
          go_wp2_with fail
          refine RD5.out.mono ?_; rintro e w6 ⟨x', y', V', rfl, hb6⟩
          obtain ⟨rfl, rfl⟩ := bd_one HV.out V'
          have D6 := Lib.hid (bl_tr D5.out hb6)
          have y1 : (x' == x') = true := by simp
          have y2 : (y' == y') = true := by simp
          clear c0 c1 c2 c3 c4 c5 V' hb6 HV
          go_wp2
          go_ret
          exact ⟨rfl, D6.out⟩
end Go.Proofs.YtlhpiikpmmlpeaaDoor.kn

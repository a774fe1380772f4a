/-
  The walk of kurganlaw05.InstCopies.
-/
import Derived.Test.YtknpjeeclagmjaaDoorAB
namespace Go.Proofs.YtknpjeeclagmjaaDoor
open Go.RowKit
set_option linter.unusedVariables false
set_option maxRecDepth 100000 in
set_option maxHeartbeats 4000000 in
theorem copies_walk (kd N C : Int) (wl vl : List Int) (cl : List (List Int)) (wa va ca : Option Addr) (wn vn cn wc vc cc : Nat) (kd' N' C' : Int) (wl' vl' : List Int) (cl' : List (List Int)) (wa' va' ca' : Option Addr) (wn' vn' cn' wc' vc' cc' : Nat) (z : Int) (w : World) (ht : Tab w)
    (h1 : Src w wa wn wc wl) (h2 : Src w va vn vc vl) (h3 : RSrc w ca cn cc cl) (m1 : Src w wa' wn' wc' wl') (m2 : Src w va' vn' vc' vl') (m3 : RSrc w ca' cn' cc' cl') :
    Calls Tryd.prog 5 #[.agg #[.int .i64 kd, .int .i64 N, .int .i64 C, .slice wa wn wc, .slice va vn vc, .slice ca cn cc], .agg #[.int .i64 kd', .int .i64 N', .int .i64 C', .slice wa' wn' wc', .slice va' vn' vc', .slice ca' cn' cc'], .int .i64 z] w fun e w' => e = .returned (.bool true) ∧ Below w.heap.size w w' := by
  have bA : Below w.heap.size w ((w.alloc (.cells #[.int .i64 kd, .int .i64 N, .int .i64 C, .slice wa wn wc, .slice va vn vc, .slice ca cn cc] 25)).alloc (.cells #[.int .i64 kd', .int .i64 N', .int .i64 C', .slice wa' wn' wc', .slice va' vn' vc', .slice ca' cn' cc'] 25)) := bl_al (bl_al (Below.refl _ _) _) _
  have l1 : wl.length ≤ 70 := by have := h1.1; omega
  have l2 : vl.length ≤ 70 := by have := h2.1; omega
  have l3 : cl.length ≤ 30 := by have := h3.1; omega
  have l4 : wl'.length ≤ 70 := by have := m1.1; omega
  have l5 : vl'.length ≤ 70 := by have := m2.1; omega
  have l6 : cl'.length ≤ 30 := by have := m3.1; omega
  have HRR := Lib.hid (rsrc_rows h3)
  have HRR' := Lib.hid (rsrc_rows m3)
  have hp := tab_pos ht
  have HT := Lib.hid (tab_keep _ _ ht (bA.drew))
  have HA := Lib.hid (refcopy_any kd N C wl vl cl wa va ca wn vn cn wc vc cc ((w.alloc (.cells #[.int .i64 kd, .int .i64 N, .int .i64 C, .slice wa wn wc, .slice va vn vc, .slice ca cn cc] 25)).alloc (.cells #[.int .i64 kd', .int .i64 N', .int .i64 C', .slice wa' wn' wc', .slice va' vn' vc', .slice ca' cn' cc'] 25)).drew (h1.keep bA.drew) (h2.keep bA.drew) (h3.keep bA.drew))
  have HBf := Lib.hid (fun (W : World) (hW : Below w.heap.size w W) => refcopy_any kd' N' C' wl' vl' cl' wa' va' ca' wn' vn' cn' wc' vc' cc' W (m1.keep hW) (m2.keep hW) (m3.keep hW))
  have QA : Hid (((w.alloc (.cells #[.int .i64 kd, .int .i64 N, .int .i64 C, .slice wa wn wc, .slice va vn vc, .slice ca cn cc] 25)).alloc (.cells #[.int .i64 kd', .int .i64 N', .int .i64 C', .slice wa' wn' wc', .slice va' vn' vc', .slice ca' cn' cc'] 25)).drew.heap[w.heap.size]? = some (.cells #[.int .i64 kd, .int .i64 N, .int .i64 C, .slice wa wn wc, .slice va vn vc, .slice ca cn cc] 25 (0, 0))) := Lib.hid (heap_alloc2_old w _ _)
  have QB : Hid (((w.alloc (.cells #[.int .i64 kd, .int .i64 N, .int .i64 C, .slice wa wn wc, .slice va vn vc, .slice ca cn cc] 25)).alloc (.cells #[.int .i64 kd', .int .i64 N', .int .i64 C', .slice wa' wn' wc', .slice va' vn' vc', .slice ca' cn' cc'] 25)).drew.heap[w.heap.size + 1]? = some (.cells #[.int .i64 kd', .int .i64 N', .int .i64 C', .slice wa' wn' wc', .slice va' vn' vc', .slice ca' cn' cc'] 25 (0, 0))) := Lib.hid (heap_alloc2_new w _ _)
  have BA := Lib.hid bA.drew
  clear h1 h2 h3 m1 m2 m3 bA ht
  go_enter Tryd.func5, Tryd.ntmps5
  go_upto_region 1 with fail
  go_cut [10, 11, 12, 13] (fun v1 v2 v3 v4 wx => Hid (AB w kd N C kd' N' C' wl vl wl' vl' cl cl' wx))
  case first =>
    generalize hWW : ((w.alloc (.cells #[.int .i64 kd, .int .i64 N, .int .i64 C, .slice wa wn wc, .slice va vn vc, .slice ca cn cc] 25)).alloc (.cells #[.int .i64 kd', .int .i64 N', .int .i64 C', .slice wa' wn' wc', .slice va' vn' vc', .slice ca' cn' cc'] 25)) = WW at HA QA QB BA HT ⊢
    clear hWW
    obtain ⟨a0, a1, a2, a3, a4, a5⟩ := box6 QA.out
    obtain ⟨b0, b1, b2, b3, b4, b5⟩ := box6 QB.out
    go_region_law? (first
      | (go_simp; go_at_call 8; (with_reducible refine HA.out.mono ?_); rintro e x1 ⟨g1, k1, g2, k2, ra, rc, rfl, hb1, i1, i2, i3, p1, p2, p3, p4, -⟩; have QA1 := Lib.hid ((hb1.block _ (lt_hp QA.out)).trans QA.out); have QB1 := Lib.hid ((hb1.block _ (lt_hp QB.out)).trans QB.out); have B1 := Lib.hid (bl_tr BA.out hb1); have T1 := Lib.hid (tab_keep _ _ HT.out hb1); have HI1 := Lib.hid i1; have HI2 := Lib.hid i2; have HI3 := Lib.hid i3; have P1 := Lib.hid p1; have P2 := Lib.hid p2; have P3 := Lib.hid p3; have P4 := Lib.hid p4; clear hb1 i1 i2 i3 p1 p2 p3 p4; obtain ⟨b0, b1, b2, b3, b4, b5⟩ := box6 QB1.out)
      | (go_simp; go_at_call 8; (with_reducible refine (HBf.out _ B1.out).mono ?_); rintro e x2 ⟨g3, k3, g4, k4, rb, rd, rfl, hb2, j1, j2, j3, q1, q2, q3, q4, -⟩; have qa := (hb2.block _ (lt_hp QA1.out)).trans QA1.out; have qb := (hb2.block _ (lt_hp QB1.out)).trans QB1.out; have RR := ab_of qa qb (bl_tr B1.out hb2) (tab_keep _ _ T1.out hb2) hp (HI1.out.keep hb2) (HI2.out.keep hb2) (HI3.out.keep hb2) j1 j2 j3 P1.out P2.out P3.out P4.out q1 q2 q3 q4; obtain ⟨eb, hab⟩ := RR; have HAB := Lib.hid hab; clear hab j1 j2 j3 q1 q2 q3 q4 hb2 qb; obtain ⟨c0, c1, c2, c3, c4, c5⟩ := box6 qa; have cf := fr6 qa; obtain ⟨d0, d1, d2, d3, d4, d5⟩ := box6 eb; have df := fr6 eb; clear qa eb)
      )
    all_goals
      go_wp2
    all_goals go_meet
    all_goals exact HAB
  case rest =>
    obtain ⟨⟨g1, k1, g2, k2, ra, rc, qa, i1, i2, ⟨E, i3⟩, p1, p2, p3, p4⟩, ⟨g3, k3, g4, k4, rb, rd, qb, j1, j2, ⟨F, j3⟩, q1, q2, q3, q4⟩, hbl, ht⟩ := hcut.out
    have IC := Lib.hid (icopy_any kd N C wl vl cl ⟨g1, 0, none⟩ ⟨g2, 0, none⟩ ra k1 k2 rc (by omega) (by omega) (by omega) wc i1.ints i2.ints i3.some)
    have HC8 := Lib.hid (fun (W : World) (hW : Below wc.heap.size wc W) => refcopy_any kd N C wl vl cl (some ⟨g1, 0, none⟩) (some ⟨g2, 0, none⟩) ra wl.length vl.length cl.length k1 k2 rc W ((i1.src l1 p1).keep hW) ((i2.src l2 p2).keep hW) ((i3.rsrc l3 HRR.out p3 p4).keep hW))
    have PA := Lib.hid (show Prb wc wl vl cl (some ⟨g1, 0, none⟩) (some ⟨g2, 0, none⟩) ra from ⟨i1.ints, i2.ints, i3.rws⟩)
    have PB := Lib.hid (show Prb wc wl' vl' cl' (some ⟨g3, 0, none⟩) (some ⟨g4, 0, none⟩) rb from ⟨j1.ints, j2.ints, j3.rws⟩)
    have TC := Lib.hid ht
    have HW := Lib.hid hbl
    have QA2 := Lib.hid qa
    have QB2 := Lib.hid qb
    obtain ⟨e0, e1, e2, e3, e4, e5⟩ := box6 qa
    clear hcut qa qb i1 i2 i3 j1 j2 j3 p1 p2 p3 p4 q1 q2 q3 q4 hbl ht HRR HRR' HA HBf QA QB BA HT
    generalize wc = X at *
    go_wp2_with fail
    refine IC.out.mono ?_; rintro e w2 ⟨a1, a2, a3, c1, c2, c3, rfl, hb2, lo1, lo2, ro3⟩
    clear e0 e1 e2 e3 e4 e5 IC
    have bz : Below w2.heap.size w2 (w2.alloc (.cells #[.int .i64 kd, .int .i64 N, .int .i64 C, .slice a1 wl.length c1, .slice a2 vl.length c2, .slice a3 cl.length c3] 25)) := bl_al (Below.refl _ _) _
    have BY := Lib.hid (bl_tr hb2 bz)
    have C7 := Lib.hid (heap_alloc_new w2 (.cells #[.int .i64 kd, .int .i64 N, .int .i64 C, .slice a1 wl.length c1, .slice a2 vl.length c2, .slice a3 cl.length c3] 25))
    have LO1 := Lib.hid (lo1.keep bz)
    have LO2 := Lib.hid (lo2.keep bz)
    have RO3 := Lib.hid (ro3.keep bz)
    clear hb2 bz lo1 lo2 ro3
    go_upto_region 3 with fail
    obtain ⟨p7, hp7⟩ : ∃ p7, p7 = w2.heap.size := ⟨_, rfl⟩
    rw [← hp7] at C7 ⊢
    generalize w2.alloc (.cells #[.int .i64 kd, .int .i64 N, .int .i64 C, .slice a1 wl.length c1, .slice a2 vl.length c2, .slice a3 cl.length c3] 25) = Y at BY C7 LO1 LO2 RO3 ⊢
    clear hp7
    have QAY := Lib.hid ((BY.out.block _ (lt_hp QA2.out)).trans QA2.out)
    have QBY := Lib.hid ((BY.out.block _ (lt_hp QB2.out)).trans QB2.out)
    have HC : Hid (∀ W, Below Y.heap.size Y W → W.cell? ⟨w.heap.size, 0, none⟩ = some (.int .i64 kd) ∧ W.cell? ⟨w.heap.size, 1, none⟩ = some (.int .i64 N) ∧ W.cell? ⟨w.heap.size, 2, none⟩ = some (.int .i64 C) ∧ W.cell? ⟨w.heap.size, 3, none⟩ = some (.slice (some ⟨g1, 0, none⟩) wl.length k1) ∧ W.cell? ⟨w.heap.size, 4, none⟩ = some (.slice (some ⟨g2, 0, none⟩) vl.length k2) ∧ W.cell? ⟨w.heap.size, 5, none⟩ = some (.slice ra cl.length rc) ∧ W.cell? ⟨w.heap.size + 1, 0, none⟩ = some (.int .i64 kd') ∧ W.cell? ⟨w.heap.size + 1, 1, none⟩ = some (.int .i64 N') ∧ W.cell? ⟨w.heap.size + 1, 2, none⟩ = some (.int .i64 C') ∧ W.cell? ⟨w.heap.size + 1, 3, none⟩ = some (.slice (some ⟨g3, 0, none⟩) wl'.length k3) ∧ W.cell? ⟨w.heap.size + 1, 4, none⟩ = some (.slice (some ⟨g4, 0, none⟩) vl'.length k4) ∧ W.cell? ⟨w.heap.size + 1, 5, none⟩ = some (.slice rb cl'.length rd) ∧ W.cell? ⟨p7, 0, none⟩ = some (.int .i64 kd) ∧ W.cell? ⟨p7, 1, none⟩ = some (.int .i64 N) ∧ W.cell? ⟨p7, 2, none⟩ = some (.int .i64 C) ∧ W.cell? ⟨p7, 3, none⟩ = some (.slice a1 wl.length c1) ∧ W.cell? ⟨p7, 4, none⟩ = some (.slice a2 vl.length c2) ∧ W.cell? ⟨p7, 5, none⟩ = some (.slice a3 cl.length c3)) := Lib.hid fun W hW => by
      obtain ⟨x0, x1, x2, x3, x4, x5⟩ := box6 ((hW.block _ (lt_hp QAY.out)).trans QAY.out)
      obtain ⟨y0, y1, y2, y3, y4, y5⟩ := box6 ((hW.block _ (lt_hp QBY.out)).trans QBY.out)
      obtain ⟨z0, z1, z2, z3, z4, z5⟩ := box6 ((hW.block _ (lt_hp C7.out)).trans C7.out)
      exact ⟨x0, x1, x2, x3, x4, x5, y0, y1, y2, y3, y4, y5, z0, z1, z2, z3, z4, z5⟩
    have PAY := Lib.hid (PA.out.keep BY.out)
    have PBY := Lib.hid (PB.out.keep BY.out)
    have PCY := Lib.hid (show Prb Y wl vl cl a1 a2 a3 from ⟨LO1.out.ints, LO2.out.ints, RO3.out.rws⟩)
    obtain ⟨bt, hbt⟩ : ∃ bt : Bool, bt = true ↔ kd = kd' ∧ N = N' ∧ C = C' ∧ wl = wl' ∧ vl = vl' ∧ cl = cl' := by
      classical exact ⟨decide (kd = kd' ∧ N = N' ∧ C = C' ∧ wl = wl' ∧ vl = vl' ∧ cl = cl'), by simp⟩
    have S1 := Lib.hid (fun (W : World) (hW : Below Y.heap.size Y W) => same_any true kd N C kd N C wl vl wl vl cl cl (by simp) (some ⟨g1, 0, none⟩) (some ⟨g2, 0, none⟩) ra a1 a2 a3 k1 k2 rc c1 c2 c3 W (PAY.out.keep hW).i1 (PAY.out.keep hW).i2 (PAY.out.keep hW).i3 (PCY.out.keep hW).i1 (PCY.out.keep hW).i2 (PCY.out.keep hW).i3 (by omega) (by omega) (by omega) (by omega) (by omega))
    have S2 := Lib.hid (fun (W : World) (hW : Below Y.heap.size Y W) => isame_any true kd N C kd N C wl vl wl vl cl cl (by simp) (some ⟨g1, 0, none⟩) (some ⟨g2, 0, none⟩) ra a1 a2 a3 k1 k2 rc c1 c2 c3 W (PAY.out.keep hW).i1 (PAY.out.keep hW).i2 (PAY.out.keep hW).i3 (PCY.out.keep hW).i1 (PCY.out.keep hW).i2 (PCY.out.keep hW).i3 (by omega) (by omega) (by omega) (by omega) (by omega) (by omega))
    have S3 := Lib.hid (fun (W : World) (hW : Below Y.heap.size Y W) => isame_any bt kd N C kd' N' C' wl vl wl' vl' cl cl' hbt (some ⟨g1, 0, none⟩) (some ⟨g2, 0, none⟩) ra (some ⟨g3, 0, none⟩) (some ⟨g4, 0, none⟩) rb k1 k2 rc k3 k4 rd W (PAY.out.keep hW).i1 (PAY.out.keep hW).i2 (PAY.out.keep hW).i3 (PBY.out.keep hW).i1 (PBY.out.keep hW).i2 (PBY.out.keep hW).i3 (by omega) (by omega) (by omega) (by omega) (by omega) (by omega))
    have S4 := Lib.hid (fun (W : World) (hW : Below Y.heap.size Y W) => same_any bt kd N C kd' N' C' wl vl wl' vl' cl cl' hbt (some ⟨g1, 0, none⟩) (some ⟨g2, 0, none⟩) ra (some ⟨g3, 0, none⟩) (some ⟨g4, 0, none⟩) rb k1 k2 rc k3 k4 rd W (PAY.out.keep hW).i1 (PAY.out.keep hW).i2 (PAY.out.keep hW).i3 (PBY.out.keep hW).i1 (PBY.out.keep hW).i2 (PBY.out.keep hW).i3 (by omega) (by omega) (by omega) (by omega) (by omega))
    have TY := Lib.hid (tab_keep _ _ TC.out BY.out)
    have INF := Lib.hid (fun (W : World) (hW : Below Y.heap.size Y W) => insts_any W (tab_keep _ _ TY.out hW))
    have HB := Lib.hid (Below.refl Y.heap.size Y).drew
    have K := Lib.hid (HC.out _ HB.out)
    have hud := undef_neC
    clear hbt TC PB QB2
    go_region_held3 (fun w' => w'.cell? ⟨w.heap.size, 0, none⟩ = some (.int .i64 kd) ∧ w'.cell? ⟨w.heap.size, 1, none⟩ = some (.int .i64 N) ∧ w'.cell? ⟨w.heap.size, 2, none⟩ = some (.int .i64 C) ∧ w'.cell? ⟨w.heap.size, 3, none⟩ = some (.slice (some ⟨g1, 0, none⟩) wl.length k1) ∧ w'.cell? ⟨w.heap.size, 4, none⟩ = some (.slice (some ⟨g2, 0, none⟩) vl.length k2) ∧ w'.cell? ⟨w.heap.size, 5, none⟩ = some (.slice ra cl.length rc) ∧ w'.cell? ⟨w.heap.size + 1, 0, none⟩ = some (.int .i64 kd') ∧ w'.cell? ⟨w.heap.size + 1, 1, none⟩ = some (.int .i64 N') ∧ w'.cell? ⟨w.heap.size + 1, 2, none⟩ = some (.int .i64 C') ∧ w'.cell? ⟨w.heap.size + 1, 3, none⟩ = some (.slice (some ⟨g3, 0, none⟩) wl'.length k3) ∧ w'.cell? ⟨w.heap.size + 1, 4, none⟩ = some (.slice (some ⟨g4, 0, none⟩) vl'.length k4) ∧ w'.cell? ⟨w.heap.size + 1, 5, none⟩ = some (.slice rb cl'.length rd) ∧ w'.cell? ⟨p7, 0, none⟩ = some (.int .i64 kd) ∧ w'.cell? ⟨p7, 1, none⟩ = some (.int .i64 N) ∧ w'.cell? ⟨p7, 2, none⟩ = some (.int .i64 C) ∧ w'.cell? ⟨p7, 3, none⟩ = some (.slice a1 wl.length c1) ∧ w'.cell? ⟨p7, 4, none⟩ = some (.slice a2 vl.length c2) ∧ w'.cell? ⟨p7, 5, none⟩ = some (.slice a3 cl.length c3))
      (exact K.out)
      (first
        | (go_at_call 9; (with_reducible refine (INF.out _ HB.out).mono ?_); rintro e x1 ⟨rfl, hb3⟩; have HB := Lib.hid (bl_tr HB.out hb3); have K := Lib.hid (HC.out _ HB.out); clear hb3)
        | (go_at_call 14; (with_reducible refine (S1.out _ HB.out).mono ?_); rintro e x1 ⟨rfl, hb3⟩; have HB := Lib.hid (bl_tr HB.out hb3); have K := Lib.hid (HC.out _ HB.out); clear hb3)
        | (go_at_call 16; (with_reducible refine (S2.out _ HB.out).mono ?_); rintro e x1 ⟨rfl, hb3⟩; have HB := Lib.hid (bl_tr HB.out hb3); have K := Lib.hid (HC.out _ HB.out); clear hb3)
        | (go_at_call 16; (with_reducible refine (S3.out _ HB.out).mono ?_); rintro e x1 ⟨rfl, hb3⟩; have HB := Lib.hid (bl_tr HB.out hb3); have K := Lib.hid (HC.out _ HB.out); clear hb3)
        | (go_at_call 14; (with_reducible refine (S4.out _ HB.out).mono ?_); rintro e x1 ⟨rfl, hb3⟩; have HB := Lib.hid (bl_tr HB.out hb3); have K := Lib.hid (HC.out _ HB.out); clear hb3))
    obtain ⟨k, hk⟩ : ∃ k : Nat, wrap64 ((IntKind.u64.wrap z).tmod 64) = (k : Int) := by
      have h0 : 0 ≤ IntKind.u64.wrap z := by rw [IntKind.wrap_u64]; omega
      rw [Int.tmod_eq_emod_of_nonneg h0]
      refine ⟨(IntKind.u64.wrap z % 64).toNat, ?_⟩
      unfold wrap64; omega
    go_upto_region 5 with fail
    have TX1 := HB.out
    clear K INF S1 S2 S3 S4 HC PBY QBY
    have QA5 := Lib.hid ((HB.out.block _ (lt_hp QAY.out)).trans QAY.out)
    obtain ⟨e0, e1, e2, e3, e4, e5⟩ := box6 QA5.out
    go_wp2_with fail
    refine (HC8.out _ (bl_tr BY.out HB.out)).mono ?_; rintro e w8 ⟨h1, kk1, h2, kk2, ra3, rc3, rfl, hb8, i1, i2, i3, -, -, -, -, f1, f2⟩
    clear e0 e1 e2 e3 e4 e5 HC8 QA5
    have bz : Below w8.heap.size w8 (w8.alloc (.cells #[.int .i64 kd, .int .i64 N, .int .i64 C, .slice (some ⟨h1, 0, none⟩) wl.length kk1, .slice (some ⟨h2, 0, none⟩) vl.length kk2, .slice ra3 cl.length rc3] 25)) := bl_al (Below.refl _ _) _
    have BZ := bl_tr hb8 bz
    have BX := bl_tr (bl_tr BY.out HB.out) BZ
    have hyy := HB.out.size
    have R0 := Lib.hid (show CF X _ p7 w8.heap.size _ _ wl vl cl h1 h2 ra3 a1 a2 a3 (w8.alloc (.cells #[.int .i64 kd, .int .i64 N, .int .i64 C, .slice (some ⟨h1, 0, none⟩) wl.length kk1, .slice (some ⟨h2, 0, none⟩) vl.length kk2, .slice ra3 cl.length rc3] 25)) from {
      bx := BX
      b7 := (BZ.block _ (lt_hp ((HB.out.block _ (lt_hp C7.out)).trans C7.out))).trans ((HB.out.block _ (lt_hp C7.out)).trans C7.out)
      b8 := heap_alloc_new w8 (.cells #[.int .i64 kd, .int .i64 N, .int .i64 C, .slice (some ⟨h1, 0, none⟩) wl.length kk1, .slice (some ⟨h2, 0, none⟩) vl.length kk2, .slice ra3 cl.length rc3] 25)
      k1 := i1.keep bz
      k2 := i2.keep bz
      k3 := i3.keep bz
      y1 := f1
      y2 := f2
      s1 := ((SI.of LO1.out hyy).keep HB.out).keep BZ
      s2 := ((SI.of LO2.out hyy).keep HB.out).keep BZ
      s3 := ((SR.of RO3.out hyy).keep HB.out).keep BZ })
    clear bz BZ BX hb8 i1 i2 i3 f1 f2 LO1 LO2 RO3 hyy TX1 BY QAY PAY PCY TY C7
    go_upto_region 6 with fail
    obtain ⟨y, hy⟩ : ∃ y, y = x1.heap.size := ⟨_, rfl⟩
    rw [← hy] at R0
    clear hy
    obtain ⟨p8, hp8⟩ : ∃ p8, p8 = w8.heap.size := ⟨_, rfl⟩
    rw [← hp8] at R0 ⊢
    generalize w8.alloc (.cells #[.int .i64 kd, .int .i64 N, .int .i64 C, .slice (some ⟨h1, 0, none⟩) wl.length kk1, .slice (some ⟨h2, 0, none⟩) vl.length kk2, .slice ra3 cl.length rc3] 25) = Z at R0 ⊢
    clear hp8 HB
    go_upto_region 7 with fail
    rw [hk]
    clear hk
    generalize (IntKind.u64.wrap z).tmod 64 = zz
    obtain ⟨e0, e1, e2, e3, e4, e5⟩ := box6 R0.out.b7
    go_upto_if 49 with fail
    clear e0 e1 e2 e3 e4 e5
    go_cut [] from 45 (fun wx => Hid (CF X y p7 p8 #[.int .i64 kd, .int .i64 N, .int .i64 C, .slice a1 wl.length c1, .slice a2 vl.length c2, .slice a3 cl.length c3] #[.int .i64 kd, .int .i64 N, .int .i64 C, .slice (some ⟨h1, 0, none⟩) wl.length kk1, .slice (some ⟨h2, 0, none⟩) vl.length kk2, .slice ra3 cl.length rc3] wl vl cl h1 h2 ra3 a1 a2 a3 wx))
    case first =>
      by_cases q1 : k < wl.length
      · have q2 : (k : Int) < (wl.length : Int) := by omega
        obtain ⟨g, hga, ⟨cur, hgc, hgz⟩, hlo, hhi⟩ : ∃ g, a1 = some ⟨g, 0, none⟩ ∧ IX Z g wl.length ∧ X.heap.size ≤ g ∧ g < y := by
          rcases R0.out.s1 with h | h
          · omega
          · exact h
        subst hga
        obtain ⟨v, hv⟩ := hgz k q1
        have cc0 : Z.cell? ⟨g, k, none⟩ = some (.int .i64 v) := by rw [cell_of_row _ _ _ _ _ _ hgc]; exact hv
        have cf0 : Z.frozen? ⟨g, k, none⟩ = false := frozen_of_row _ _ _ _ _ hgc
        have HS := Lib.hid (fun x => R0.out.set (c := k) hgc hlo hhi x)
        obtain ⟨e0, e1, e2, e3, e4, e5⟩ := box6 R0.out.b7
        clear hgc hgz hv R0
        go_wp2
        go_meet
        exact Lib.hid (HS.out _)
      · have q2 : ¬ (k : Int) < (wl.length : Int) := by omega
        go_wp2
        go_meet
        exact R0
    case rest =>
      have R0 := hcut
      clear hcut
      generalize wc = Z at R0 ⊢
      obtain ⟨e0, e1, e2, e3, e4, e5⟩ := box6 R0.out.b7
      go_upto_if 61 with fail
      clear e0 e1 e2 e3 e4 e5
      go_cut [] from 45 (fun wx => Hid (CF X y p7 p8 #[.int .i64 kd, .int .i64 N, .int .i64 C, .slice a1 wl.length c1, .slice a2 vl.length c2, .slice a3 cl.length c3] #[.int .i64 kd, .int .i64 N, .int .i64 C, .slice (some ⟨h1, 0, none⟩) wl.length kk1, .slice (some ⟨h2, 0, none⟩) vl.length kk2, .slice ra3 cl.length rc3] wl vl cl h1 h2 ra3 a1 a2 a3 wx))
      case first =>
        by_cases q1 : k < vl.length
        · have q2 : (k : Int) < (vl.length : Int) := by omega
          obtain ⟨g, hga, ⟨cur, hgc, hgz⟩, hlo, hhi⟩ : ∃ g, a2 = some ⟨g, 0, none⟩ ∧ IX Z g vl.length ∧ X.heap.size ≤ g ∧ g < y := by
            rcases R0.out.s2 with h | h
            · omega
            · exact h
          subst hga
          obtain ⟨v, hv⟩ := hgz k q1
          have cc0 : Z.cell? ⟨g, k, none⟩ = some (.int .i64 v) := by rw [cell_of_row _ _ _ _ _ _ hgc]; exact hv
          have cf0 : Z.frozen? ⟨g, k, none⟩ = false := frozen_of_row _ _ _ _ _ hgc
          have HS := Lib.hid (fun x => R0.out.set (c := k) hgc hlo hhi x)
          obtain ⟨e0, e1, e2, e3, e4, e5⟩ := box6 R0.out.b7
          clear hgc hgz hv R0
          go_wp2
          go_meet
          exact Lib.hid (HS.out _)
        · have q2 : ¬ (k : Int) < (vl.length : Int) := by omega
          go_wp2
          go_meet
          exact R0
      case rest =>
        have R0 := hcut
        clear hcut
        generalize wc = Z at R0 ⊢
        obtain ⟨e0, e1, e2, e3, e4, e5⟩ := box6 R0.out.b7
        by_cases q1 : k < cl.length
        · have q2 : (k : Int) < (cl.length : Int) := by omega
          obtain ⟨g, cur, hga, hgc, hgz⟩ : ∃ g cur, a3 = some ⟨g, 0, none⟩ ∧ Z.heap[g]? = some (.cells cur 22 (0, 0)) ∧ ∀ j, j < cl.length → ∃ aj nj cj, cur[j]? = some (.slice aj nj cj) ∧ SI X.heap.size y Z aj nj ∧ nj ≤ 1000 := by
            rcases R0.out.s3 with h | h
            · omega
            · exact h
          subst hga
          obtain ⟨aj, nj, cj, hv, hsi, hnj⟩ := hgz k q1
          have cc0 : Z.cell? ⟨g, k, none⟩ = some (.slice aj nj cj) := by rw [cell_of_row _ _ _ _ _ _ hgc]; exact hv
          by_cases q3 : 0 < nj
          · have q4 : (0 : Int) < (nj : Int) := by omega
            obtain ⟨gj, hgj, ⟨curj, hjc, hjz⟩, hlo, hhi⟩ : ∃ g, aj = some ⟨g, 0, none⟩ ∧ IX Z g nj ∧ X.heap.size ≤ g ∧ g < y := by
              rcases hsi with h | h
              · omega
              · exact h
            subst hgj
            obtain ⟨v, hv0⟩ := hjz 0 q3
            have cc1 : Z.cell? ⟨gj, 0, none⟩ = some (.int .i64 v) := by rw [cell_of_row _ _ _ _ _ _ hjc]; exact hv0
            have cf1 : Z.frozen? ⟨gj, 0, none⟩ = false := frozen_of_row _ _ _ _ _ hjc
            have HS := Lib.hid (fun x => R0.out.set (c := 0) hjc hlo hhi x)
            clear hgc hgz hv hsi hjc hjz hv0 R0
            have R1 := Lib.hid (HS.out (bits .xor .i64 v 1))
            go_upto_region 13 with fail
            clear e0 e1 e2 e3 e4 e5 cc0 cc1 cf1
            generalize Z.setCell ⟨gj, 0, none⟩ (.int .i64 (bits .xor .i64 v 1)) = V at R1 ⊢
            have QA9 := Lib.hid ((R1.out.bx.block _ (lt_hp QA2.out)).trans QA2.out)
            have PA9 := Lib.hid (PA.out.keep R1.out.bx)
            obtain ⟨wl2, hw2, I1⟩ : ∃ l, l.length = wl.length ∧ Ints V a1 l := ⟨_, rdI_len _ _ _, R1.out.s1.ints⟩
            obtain ⟨vl2, hv2, I2⟩ : ∃ l, l.length = vl.length ∧ Ints V a2 l := ⟨_, rdI_len _ _ _, R1.out.s2.ints⟩
            obtain ⟨cl2, hc2, I3⟩ : ∃ l, l.length = cl.length ∧ Rws V (some ⟨g, 0, none⟩) l := ⟨_, rdR_len _ _ _, R1.out.s3.rws⟩
            obtain ⟨ga, hga2⟩ : ∃ bt : Bool, bt = true ↔ kd = kd ∧ N = N ∧ C = C ∧ wl = wl2 ∧ vl = vl2 ∧ cl = cl2 := by
              classical exact ⟨decide (kd = kd ∧ N = N ∧ C = C ∧ wl = wl2 ∧ vl = vl2 ∧ cl = cl2), by simp⟩
            have T1 := Lib.hid (fun (W : World) (hW : Below V.heap.size V W) => same_any true kd N C kd N C wl vl wl vl cl cl (by simp) (some ⟨g1, 0, none⟩) (some ⟨g2, 0, none⟩) ra (some ⟨h1, 0, none⟩) (some ⟨h2, 0, none⟩) ra3 k1 k2 rc kk1 kk2 rc3 W (PA9.out.keep hW).i1 (PA9.out.keep hW).i2 (PA9.out.keep hW).i3 (R1.out.k1.ints.keep hW) (R1.out.k2.ints.keep hW) (R1.out.k3.rws.keep hW) (by omega) (by omega) (by omega) (by omega) (by omega))
            have T2 := Lib.hid (fun (W : World) (hW : Below V.heap.size V W) => isame_any ga kd N C kd N C wl vl wl2 vl2 cl cl2 hga2 (some ⟨g1, 0, none⟩) (some ⟨g2, 0, none⟩) ra a1 a2 (some ⟨g, 0, none⟩) k1 k2 rc c1 c2 c3 W (PA9.out.keep hW).i1 (PA9.out.keep hW).i2 (PA9.out.keep hW).i3 (I1.keep hW) (I2.keep hW) (I3.keep hW) (by omega) (by omega) (by omega) (by omega) (by omega) (by omega))
            have T3 := Lib.hid (fun (W : World) (hW : Below V.heap.size V W) => same_any ga kd N C kd N C wl vl wl2 vl2 cl cl2 hga2 (some ⟨g1, 0, none⟩) (some ⟨g2, 0, none⟩) ra a1 a2 (some ⟨g, 0, none⟩) k1 k2 rc c1 c2 c3 W (PA9.out.keep hW).i1 (PA9.out.keep hW).i2 (PA9.out.keep hW).i3 (I1.keep hW) (I2.keep hW) (I3.keep hW) (by omega) (by omega) (by omega) (by omega) (by omega))
            rw [hw2, hv2, hc2] at T2 T3
            have HC : Hid (∀ W, Below V.heap.size V W → W.cell? ⟨w.heap.size, 0, none⟩ = some (.int .i64 kd) ∧ W.cell? ⟨w.heap.size, 1, none⟩ = some (.int .i64 N) ∧ W.cell? ⟨w.heap.size, 2, none⟩ = some (.int .i64 C) ∧ W.cell? ⟨w.heap.size, 3, none⟩ = some (.slice (some ⟨g1, 0, none⟩) wl.length k1) ∧ W.cell? ⟨w.heap.size, 4, none⟩ = some (.slice (some ⟨g2, 0, none⟩) vl.length k2) ∧ W.cell? ⟨w.heap.size, 5, none⟩ = some (.slice ra cl.length rc) ∧ W.cell? ⟨p8, 0, none⟩ = some (.int .i64 kd) ∧ W.cell? ⟨p8, 1, none⟩ = some (.int .i64 N) ∧ W.cell? ⟨p8, 2, none⟩ = some (.int .i64 C) ∧ W.cell? ⟨p8, 3, none⟩ = some (.slice (some ⟨h1, 0, none⟩) wl.length kk1) ∧ W.cell? ⟨p8, 4, none⟩ = some (.slice (some ⟨h2, 0, none⟩) vl.length kk2) ∧ W.cell? ⟨p8, 5, none⟩ = some (.slice ra3 cl.length rc3) ∧ W.cell? ⟨p7, 0, none⟩ = some (.int .i64 kd) ∧ W.cell? ⟨p7, 1, none⟩ = some (.int .i64 N) ∧ W.cell? ⟨p7, 2, none⟩ = some (.int .i64 C) ∧ W.cell? ⟨p7, 3, none⟩ = some (.slice a1 wl.length c1) ∧ W.cell? ⟨p7, 4, none⟩ = some (.slice a2 vl.length c2) ∧ W.cell? ⟨p7, 5, none⟩ = some (.slice (some ⟨g, 0, none⟩) cl.length c3)) := Lib.hid fun W hW => by
              obtain ⟨x0, x1, x2, x3, x4, x5⟩ := box6 ((hW.block _ (lt_hp QA9.out)).trans QA9.out)
              obtain ⟨y0, y1, y2, y3, y4, y5⟩ := box6 ((hW.block _ (lt_hp R1.out.b8)).trans R1.out.b8)
              obtain ⟨z0, z1, z2, z3, z4, z5⟩ := box6 ((hW.block _ (lt_hp R1.out.b7)).trans R1.out.b7)
              exact ⟨x0, x1, x2, x3, x4, x5, y0, y1, y2, y3, y4, y5, z0, z1, z2, z3, z4, z5⟩
            have HB := Lib.hid (Below.refl V.heap.size V).drew
            have K := Lib.hid (HC.out _ HB.out)
            clear hga2 hw2 hv2 hc2 I1 I2 I3
            go_region_held3 (fun w' => w'.cell? ⟨w.heap.size, 0, none⟩ = some (.int .i64 kd) ∧ w'.cell? ⟨w.heap.size, 1, none⟩ = some (.int .i64 N) ∧ w'.cell? ⟨w.heap.size, 2, none⟩ = some (.int .i64 C) ∧ w'.cell? ⟨w.heap.size, 3, none⟩ = some (.slice (some ⟨g1, 0, none⟩) wl.length k1) ∧ w'.cell? ⟨w.heap.size, 4, none⟩ = some (.slice (some ⟨g2, 0, none⟩) vl.length k2) ∧ w'.cell? ⟨w.heap.size, 5, none⟩ = some (.slice ra cl.length rc) ∧ w'.cell? ⟨p8, 0, none⟩ = some (.int .i64 kd) ∧ w'.cell? ⟨p8, 1, none⟩ = some (.int .i64 N) ∧ w'.cell? ⟨p8, 2, none⟩ = some (.int .i64 C) ∧ w'.cell? ⟨p8, 3, none⟩ = some (.slice (some ⟨h1, 0, none⟩) wl.length kk1) ∧ w'.cell? ⟨p8, 4, none⟩ = some (.slice (some ⟨h2, 0, none⟩) vl.length kk2) ∧ w'.cell? ⟨p8, 5, none⟩ = some (.slice ra3 cl.length rc3) ∧ w'.cell? ⟨p7, 0, none⟩ = some (.int .i64 kd) ∧ w'.cell? ⟨p7, 1, none⟩ = some (.int .i64 N) ∧ w'.cell? ⟨p7, 2, none⟩ = some (.int .i64 C) ∧ w'.cell? ⟨p7, 3, none⟩ = some (.slice a1 wl.length c1) ∧ w'.cell? ⟨p7, 4, none⟩ = some (.slice a2 vl.length c2) ∧ w'.cell? ⟨p7, 5, none⟩ = some (.slice (some ⟨g, 0, none⟩) cl.length c3))
              (exact K.out)
              (first
                | (go_at_call 14; (with_reducible refine (T1.out _ HB.out).mono ?_); rintro e x1 ⟨rfl, hb3⟩; have HB := Lib.hid (bl_tr HB.out hb3); have K := Lib.hid (HC.out _ HB.out); clear hb3)
                | (go_at_call 16; (with_reducible refine (T2.out _ HB.out).mono ?_); rintro e x1 ⟨rfl, hb3⟩; have HB := Lib.hid (bl_tr HB.out hb3); have K := Lib.hid (HC.out _ HB.out); clear hb3)
                | (go_at_call 14; (with_reducible refine (T3.out _ HB.out).mono ?_); rintro e x1 ⟨rfl, hb3⟩; have HB := Lib.hid (bl_tr HB.out hb3); have K := Lib.hid (HC.out _ HB.out); clear hb3))
            all_goals go_wp2
            all_goals
              go_ret
              exact ⟨rfl, HW.out.trans ((bl_tr R1.out.bx HB.out).mono HW.out.size)⟩
          · have q4 : ¬ (0 : Int) < (nj : Int) := by omega
            clear hgc hgz hv hsi
            have R1 := R0
            go_upto_region 13 with fail
            clear e0 e1 e2 e3 e4 e5
            clear cc0 R0
            generalize Z = V at R1 ⊢
            have QA9 := Lib.hid ((R1.out.bx.block _ (lt_hp QA2.out)).trans QA2.out)
            have PA9 := Lib.hid (PA.out.keep R1.out.bx)
            obtain ⟨wl2, hw2, I1⟩ : ∃ l, l.length = wl.length ∧ Ints V a1 l := ⟨_, rdI_len _ _ _, R1.out.s1.ints⟩
            obtain ⟨vl2, hv2, I2⟩ : ∃ l, l.length = vl.length ∧ Ints V a2 l := ⟨_, rdI_len _ _ _, R1.out.s2.ints⟩
            obtain ⟨cl2, hc2, I3⟩ : ∃ l, l.length = cl.length ∧ Rws V (some ⟨g, 0, none⟩) l := ⟨_, rdR_len _ _ _, R1.out.s3.rws⟩
            obtain ⟨ga, hga2⟩ : ∃ bt : Bool, bt = true ↔ kd = kd ∧ N = N ∧ C = C ∧ wl = wl2 ∧ vl = vl2 ∧ cl = cl2 := by
              classical exact ⟨decide (kd = kd ∧ N = N ∧ C = C ∧ wl = wl2 ∧ vl = vl2 ∧ cl = cl2), by simp⟩
            have T1 := Lib.hid (fun (W : World) (hW : Below V.heap.size V W) => same_any true kd N C kd N C wl vl wl vl cl cl (by simp) (some ⟨g1, 0, none⟩) (some ⟨g2, 0, none⟩) ra (some ⟨h1, 0, none⟩) (some ⟨h2, 0, none⟩) ra3 k1 k2 rc kk1 kk2 rc3 W (PA9.out.keep hW).i1 (PA9.out.keep hW).i2 (PA9.out.keep hW).i3 (R1.out.k1.ints.keep hW) (R1.out.k2.ints.keep hW) (R1.out.k3.rws.keep hW) (by omega) (by omega) (by omega) (by omega) (by omega))
            have T2 := Lib.hid (fun (W : World) (hW : Below V.heap.size V W) => isame_any ga kd N C kd N C wl vl wl2 vl2 cl cl2 hga2 (some ⟨g1, 0, none⟩) (some ⟨g2, 0, none⟩) ra a1 a2 (some ⟨g, 0, none⟩) k1 k2 rc c1 c2 c3 W (PA9.out.keep hW).i1 (PA9.out.keep hW).i2 (PA9.out.keep hW).i3 (I1.keep hW) (I2.keep hW) (I3.keep hW) (by omega) (by omega) (by omega) (by omega) (by omega) (by omega))
            have T3 := Lib.hid (fun (W : World) (hW : Below V.heap.size V W) => same_any ga kd N C kd N C wl vl wl2 vl2 cl cl2 hga2 (some ⟨g1, 0, none⟩) (some ⟨g2, 0, none⟩) ra a1 a2 (some ⟨g, 0, none⟩) k1 k2 rc c1 c2 c3 W (PA9.out.keep hW).i1 (PA9.out.keep hW).i2 (PA9.out.keep hW).i3 (I1.keep hW) (I2.keep hW) (I3.keep hW) (by omega) (by omega) (by omega) (by omega) (by omega))
            rw [hw2, hv2, hc2] at T2 T3
            have HC : Hid (∀ W, Below V.heap.size V W → W.cell? ⟨w.heap.size, 0, none⟩ = some (.int .i64 kd) ∧ W.cell? ⟨w.heap.size, 1, none⟩ = some (.int .i64 N) ∧ W.cell? ⟨w.heap.size, 2, none⟩ = some (.int .i64 C) ∧ W.cell? ⟨w.heap.size, 3, none⟩ = some (.slice (some ⟨g1, 0, none⟩) wl.length k1) ∧ W.cell? ⟨w.heap.size, 4, none⟩ = some (.slice (some ⟨g2, 0, none⟩) vl.length k2) ∧ W.cell? ⟨w.heap.size, 5, none⟩ = some (.slice ra cl.length rc) ∧ W.cell? ⟨p8, 0, none⟩ = some (.int .i64 kd) ∧ W.cell? ⟨p8, 1, none⟩ = some (.int .i64 N) ∧ W.cell? ⟨p8, 2, none⟩ = some (.int .i64 C) ∧ W.cell? ⟨p8, 3, none⟩ = some (.slice (some ⟨h1, 0, none⟩) wl.length kk1) ∧ W.cell? ⟨p8, 4, none⟩ = some (.slice (some ⟨h2, 0, none⟩) vl.length kk2) ∧ W.cell? ⟨p8, 5, none⟩ = some (.slice ra3 cl.length rc3) ∧ W.cell? ⟨p7, 0, none⟩ = some (.int .i64 kd) ∧ W.cell? ⟨p7, 1, none⟩ = some (.int .i64 N) ∧ W.cell? ⟨p7, 2, none⟩ = some (.int .i64 C) ∧ W.cell? ⟨p7, 3, none⟩ = some (.slice a1 wl.length c1) ∧ W.cell? ⟨p7, 4, none⟩ = some (.slice a2 vl.length c2) ∧ W.cell? ⟨p7, 5, none⟩ = some (.slice (some ⟨g, 0, none⟩) cl.length c3)) := Lib.hid fun W hW => by
              obtain ⟨x0, x1, x2, x3, x4, x5⟩ := box6 ((hW.block _ (lt_hp QA9.out)).trans QA9.out)
              obtain ⟨y0, y1, y2, y3, y4, y5⟩ := box6 ((hW.block _ (lt_hp R1.out.b8)).trans R1.out.b8)
              obtain ⟨z0, z1, z2, z3, z4, z5⟩ := box6 ((hW.block _ (lt_hp R1.out.b7)).trans R1.out.b7)
              exact ⟨x0, x1, x2, x3, x4, x5, y0, y1, y2, y3, y4, y5, z0, z1, z2, z3, z4, z5⟩
            have HB := Lib.hid (Below.refl V.heap.size V).drew
            have K := Lib.hid (HC.out _ HB.out)
            clear hga2 hw2 hv2 hc2 I1 I2 I3
            go_region_held3 (fun w' => w'.cell? ⟨w.heap.size, 0, none⟩ = some (.int .i64 kd) ∧ w'.cell? ⟨w.heap.size, 1, none⟩ = some (.int .i64 N) ∧ w'.cell? ⟨w.heap.size, 2, none⟩ = some (.int .i64 C) ∧ w'.cell? ⟨w.heap.size, 3, none⟩ = some (.slice (some ⟨g1, 0, none⟩) wl.length k1) ∧ w'.cell? ⟨w.heap.size, 4, none⟩ = some (.slice (some ⟨g2, 0, none⟩) vl.length k2) ∧ w'.cell? ⟨w.heap.size, 5, none⟩ = some (.slice ra cl.length rc) ∧ w'.cell? ⟨p8, 0, none⟩ = some (.int .i64 kd) ∧ w'.cell? ⟨p8, 1, none⟩ = some (.int .i64 N) ∧ w'.cell? ⟨p8, 2, none⟩ = some (.int .i64 C) ∧ w'.cell? ⟨p8, 3, none⟩ = some (.slice (some ⟨h1, 0, none⟩) wl.length kk1) ∧ w'.cell? ⟨p8, 4, none⟩ = some (.slice (some ⟨h2, 0, none⟩) vl.length kk2) ∧ w'.cell? ⟨p8, 5, none⟩ = some (.slice ra3 cl.length rc3) ∧ w'.cell? ⟨p7, 0, none⟩ = some (.int .i64 kd) ∧ w'.cell? ⟨p7, 1, none⟩ = some (.int .i64 N) ∧ w'.cell? ⟨p7, 2, none⟩ = some (.int .i64 C) ∧ w'.cell? ⟨p7, 3, none⟩ = some (.slice a1 wl.length c1) ∧ w'.cell? ⟨p7, 4, none⟩ = some (.slice a2 vl.length c2) ∧ w'.cell? ⟨p7, 5, none⟩ = some (.slice (some ⟨g, 0, none⟩) cl.length c3))
              (exact K.out)
              (first
                | (go_at_call 14; (with_reducible refine (T1.out _ HB.out).mono ?_); rintro e x1 ⟨rfl, hb3⟩; have HB := Lib.hid (bl_tr HB.out hb3); have K := Lib.hid (HC.out _ HB.out); clear hb3)
                | (go_at_call 16; (with_reducible refine (T2.out _ HB.out).mono ?_); rintro e x1 ⟨rfl, hb3⟩; have HB := Lib.hid (bl_tr HB.out hb3); have K := Lib.hid (HC.out _ HB.out); clear hb3)
                | (go_at_call 14; (with_reducible refine (T3.out _ HB.out).mono ?_); rintro e x1 ⟨rfl, hb3⟩; have HB := Lib.hid (bl_tr HB.out hb3); have K := Lib.hid (HC.out _ HB.out); clear hb3))
            all_goals go_wp2
            all_goals
              go_ret
              exact ⟨rfl, HW.out.trans ((bl_tr R1.out.bx HB.out).mono HW.out.size)⟩
        · have q2 : ¬ (k : Int) < (cl.length : Int) := by omega
          have R1 := R0
          go_upto_region 13 with fail
          clear e0 e1 e2 e3 e4 e5
          clear R0
          generalize Z = V at R1 ⊢
          have QA9 := Lib.hid ((R1.out.bx.block _ (lt_hp QA2.out)).trans QA2.out)
          have PA9 := Lib.hid (PA.out.keep R1.out.bx)
          obtain ⟨wl2, hw2, I1⟩ : ∃ l, l.length = wl.length ∧ Ints V a1 l := ⟨_, rdI_len _ _ _, R1.out.s1.ints⟩
          obtain ⟨vl2, hv2, I2⟩ : ∃ l, l.length = vl.length ∧ Ints V a2 l := ⟨_, rdI_len _ _ _, R1.out.s2.ints⟩
          obtain ⟨cl2, hc2, I3⟩ : ∃ l, l.length = cl.length ∧ Rws V a3 l := ⟨_, rdR_len _ _ _, R1.out.s3.rws⟩
          obtain ⟨ga, hga2⟩ : ∃ bt : Bool, bt = true ↔ kd = kd ∧ N = N ∧ C = C ∧ wl = wl2 ∧ vl = vl2 ∧ cl = cl2 := by
            classical exact ⟨decide (kd = kd ∧ N = N ∧ C = C ∧ wl = wl2 ∧ vl = vl2 ∧ cl = cl2), by simp⟩
          have T1 := Lib.hid (fun (W : World) (hW : Below V.heap.size V W) => same_any true kd N C kd N C wl vl wl vl cl cl (by simp) (some ⟨g1, 0, none⟩) (some ⟨g2, 0, none⟩) ra (some ⟨h1, 0, none⟩) (some ⟨h2, 0, none⟩) ra3 k1 k2 rc kk1 kk2 rc3 W (PA9.out.keep hW).i1 (PA9.out.keep hW).i2 (PA9.out.keep hW).i3 (R1.out.k1.ints.keep hW) (R1.out.k2.ints.keep hW) (R1.out.k3.rws.keep hW) (by omega) (by omega) (by omega) (by omega) (by omega))
          have T2 := Lib.hid (fun (W : World) (hW : Below V.heap.size V W) => isame_any ga kd N C kd N C wl vl wl2 vl2 cl cl2 hga2 (some ⟨g1, 0, none⟩) (some ⟨g2, 0, none⟩) ra a1 a2 a3 k1 k2 rc c1 c2 c3 W (PA9.out.keep hW).i1 (PA9.out.keep hW).i2 (PA9.out.keep hW).i3 (I1.keep hW) (I2.keep hW) (I3.keep hW) (by omega) (by omega) (by omega) (by omega) (by omega) (by omega))
          have T3 := Lib.hid (fun (W : World) (hW : Below V.heap.size V W) => same_any ga kd N C kd N C wl vl wl2 vl2 cl cl2 hga2 (some ⟨g1, 0, none⟩) (some ⟨g2, 0, none⟩) ra a1 a2 a3 k1 k2 rc c1 c2 c3 W (PA9.out.keep hW).i1 (PA9.out.keep hW).i2 (PA9.out.keep hW).i3 (I1.keep hW) (I2.keep hW) (I3.keep hW) (by omega) (by omega) (by omega) (by omega) (by omega))
          rw [hw2, hv2, hc2] at T2 T3
          have HC : Hid (∀ W, Below V.heap.size V W → W.cell? ⟨w.heap.size, 0, none⟩ = some (.int .i64 kd) ∧ W.cell? ⟨w.heap.size, 1, none⟩ = some (.int .i64 N) ∧ W.cell? ⟨w.heap.size, 2, none⟩ = some (.int .i64 C) ∧ W.cell? ⟨w.heap.size, 3, none⟩ = some (.slice (some ⟨g1, 0, none⟩) wl.length k1) ∧ W.cell? ⟨w.heap.size, 4, none⟩ = some (.slice (some ⟨g2, 0, none⟩) vl.length k2) ∧ W.cell? ⟨w.heap.size, 5, none⟩ = some (.slice ra cl.length rc) ∧ W.cell? ⟨p8, 0, none⟩ = some (.int .i64 kd) ∧ W.cell? ⟨p8, 1, none⟩ = some (.int .i64 N) ∧ W.cell? ⟨p8, 2, none⟩ = some (.int .i64 C) ∧ W.cell? ⟨p8, 3, none⟩ = some (.slice (some ⟨h1, 0, none⟩) wl.length kk1) ∧ W.cell? ⟨p8, 4, none⟩ = some (.slice (some ⟨h2, 0, none⟩) vl.length kk2) ∧ W.cell? ⟨p8, 5, none⟩ = some (.slice ra3 cl.length rc3) ∧ W.cell? ⟨p7, 0, none⟩ = some (.int .i64 kd) ∧ W.cell? ⟨p7, 1, none⟩ = some (.int .i64 N) ∧ W.cell? ⟨p7, 2, none⟩ = some (.int .i64 C) ∧ W.cell? ⟨p7, 3, none⟩ = some (.slice a1 wl.length c1) ∧ W.cell? ⟨p7, 4, none⟩ = some (.slice a2 vl.length c2) ∧ W.cell? ⟨p7, 5, none⟩ = some (.slice a3 cl.length c3)) := Lib.hid fun W hW => by
            obtain ⟨x0, x1, x2, x3, x4, x5⟩ := box6 ((hW.block _ (lt_hp QA9.out)).trans QA9.out)
            obtain ⟨y0, y1, y2, y3, y4, y5⟩ := box6 ((hW.block _ (lt_hp R1.out.b8)).trans R1.out.b8)
            obtain ⟨z0, z1, z2, z3, z4, z5⟩ := box6 ((hW.block _ (lt_hp R1.out.b7)).trans R1.out.b7)
            exact ⟨x0, x1, x2, x3, x4, x5, y0, y1, y2, y3, y4, y5, z0, z1, z2, z3, z4, z5⟩
          have HB := Lib.hid (Below.refl V.heap.size V).drew
          have K := Lib.hid (HC.out _ HB.out)
          clear hga2 hw2 hv2 hc2 I1 I2 I3
          go_region_held3 (fun w' => w'.cell? ⟨w.heap.size, 0, none⟩ = some (.int .i64 kd) ∧ w'.cell? ⟨w.heap.size, 1, none⟩ = some (.int .i64 N) ∧ w'.cell? ⟨w.heap.size, 2, none⟩ = some (.int .i64 C) ∧ w'.cell? ⟨w.heap.size, 3, none⟩ = some (.slice (some ⟨g1, 0, none⟩) wl.length k1) ∧ w'.cell? ⟨w.heap.size, 4, none⟩ = some (.slice (some ⟨g2, 0, none⟩) vl.length k2) ∧ w'.cell? ⟨w.heap.size, 5, none⟩ = some (.slice ra cl.length rc) ∧ w'.cell? ⟨p8, 0, none⟩ = some (.int .i64 kd) ∧ w'.cell? ⟨p8, 1, none⟩ = some (.int .i64 N) ∧ w'.cell? ⟨p8, 2, none⟩ = some (.int .i64 C) ∧ w'.cell? ⟨p8, 3, none⟩ = some (.slice (some ⟨h1, 0, none⟩) wl.length kk1) ∧ w'.cell? ⟨p8, 4, none⟩ = some (.slice (some ⟨h2, 0, none⟩) vl.length kk2) ∧ w'.cell? ⟨p8, 5, none⟩ = some (.slice ra3 cl.length rc3) ∧ w'.cell? ⟨p7, 0, none⟩ = some (.int .i64 kd) ∧ w'.cell? ⟨p7, 1, none⟩ = some (.int .i64 N) ∧ w'.cell? ⟨p7, 2, none⟩ = some (.int .i64 C) ∧ w'.cell? ⟨p7, 3, none⟩ = some (.slice a1 wl.length c1) ∧ w'.cell? ⟨p7, 4, none⟩ = some (.slice a2 vl.length c2) ∧ w'.cell? ⟨p7, 5, none⟩ = some (.slice a3 cl.length c3))
            (exact K.out)
            (first
              | (go_at_call 14; (with_reducible refine (T1.out _ HB.out).mono ?_); rintro e x1 ⟨rfl, hb3⟩; have HB := Lib.hid (bl_tr HB.out hb3); have K := Lib.hid (HC.out _ HB.out); clear hb3)
              | (go_at_call 16; (with_reducible refine (T2.out _ HB.out).mono ?_); rintro e x1 ⟨rfl, hb3⟩; have HB := Lib.hid (bl_tr HB.out hb3); have K := Lib.hid (HC.out _ HB.out); clear hb3)
              | (go_at_call 14; (with_reducible refine (T3.out _ HB.out).mono ?_); rintro e x1 ⟨rfl, hb3⟩; have HB := Lib.hid (bl_tr HB.out hb3); have K := Lib.hid (HC.out _ HB.out); clear hb3))
          all_goals go_wp2
          all_goals
            go_ret
            exact ⟨rfl, HW.out.trans ((bl_tr R1.out.bx HB.out).mono HW.out.size)⟩
end Go.Proofs.YtknpjeeclagmjaaDoor

/-
  The reference's Parse, where the numbers of an assignment or of a tour are read.
-/
import Derived.Test.YtjojdpohifdghaaRp5
namespace Go.Proofs.Ytjojdpohifdghaa
open Go.RowKit
set_option linter.unusedVariables false
set_option maxRecDepth 100000 in
set_option maxHeartbeats 16000000 in
theorem rp_asg (s : ByteArray) (T : List Tok) (hT : Toks T) (nn : Nat) (w : World) (h0 : (tk T 0).kind = 1) (EW : (tk T 0).text = nm2) (h1 : (tk T 1).kind = 2) (hn : (tk T 1).num = nn) (h2 : 1 ≤ nn) (h3 : nn ≤ 24) (HS : Hid (∀ W, Calls Try.prog 17 #[.string s] W fun e w' => ∃ v, e = .returned (.tuple #[v, .int .i64 0, .int .i64 0]) ∧ w'.ownsRow W.heap.size 51 4 v T.length (encL T) ∧ Below W.heap.size W w')) :
    Calls Try.prog 8 #[.string s] w (PaR w (PR T)) := by
  obtain ⟨i0, hi, hz0, hz1, hz2⟩ := info_parts info3
  have hPS := ps_asg h0 EW h1 hn h2 h3
  have hlen : 2 < T.length := by
    have a0 := hT.more hT.pos (show ¬ (tk T 0).kind = 3 by omega)
    have a1 := hT.more a0 (show ¬ (tk T 1).kind = 3 by omega)
    exact a1
  have HIX : Hid (∀ j, (∀ i, i < j → eK i (tk T (2 + i)) = 0) → 2 + j < T.length) := fun j ok => idx_lt hT eK_go hlen j ok
  have HPE : Hid (∀ j e, j < (nn * nn) → (∀ i, i < j → eK i (tk T (2 + i)) = 0) → eK j (tk T (2 + j)) = e → e ≠ 0 → PR T = .bad (tk T (2 + j)).at_ e) := fun j e hj ok he h0 => pr_err hPS hj ok he h0
  have HPT : Hid ((∀ i, i < (nn * nn) → eK i (tk T (2 + i)) = 0) → ¬ (tk T (2 + (nn * nn))).kind = 3 → PR T = .bad (tk T (2 + (nn * nn))).at_ 7) := fun ok hk => pr_tail hPS ok hk
  have HPG : Hid ((∀ i, i < (nn * nn) → eK i (tk T (2 + i)) = 0) → (tk T (2 + (nn * nn))).kind = 3 → PR T = PGasg T nn) := fun ok hk => pg_asg h0 EW h1 hn h2 h3 ok hk
  have HKI := Lib.hid hT
  have HCB : Hid (∀ j, j < (nn * nn) → j < 2000) := fun j hj => by have := nn_lt h3; omega
  have HW := Lib.hid (fun W => want_asg nn h2 h3 W)
  clear hPS hT
  unfold nm2 at EW
  go_enter Try.func8, Try.ntmps8
  go_wp2_with fail
  refine (HS.out _).mono ?_
  rintro e w1 ⟨v, rfl, hO, hB⟩
  obtain ⟨g, cap, rfl, hg1, hg2⟩ := hO.form (by omega)
  have HR : Hid (RH s T w w.heap.size g cap w1) := rh_of hO hB
  clear HS hO hB hg1 hg2
  obtain ⟨q, hq⟩ : ∃ q, q = w.heap.size := ⟨_, rfl⟩
  rw [← hq] at HR
  have HQ := Lib.hid hq
  rw [← hq]
  clear hq
  have c00 := (HR.out.tr.at (p := 0) (by omega)).1
  have c01 := (HR.out.tr.at (p := 0) (by omega)).2.1
  rw [h0] at c00
  rw [EW] at c01
  have c10 := (HR.out.tr.at (p := 1) (by omega)).1
  have c12 := (HR.out.tr.at (p := 1) (by omega)).2.2.1
  rw [h1] at c10
  rw [hn] at c12
  have l0 : (0 : Int) < (T.length : Int) := by omega
  have l1 : (1 : Int) < (T.length : Int) := by omega
  skip
  have d0 : ((nn : Int) == 0) = false := by simp; omega
  have d1 : ¬ 24 < (nn : Int) := by omega
  clear h0 EW h1 hn
  have HR2 : Hid (RH s T w q g cap (w1.alloc (.cells #[.int .i64 2, .int .i64 nn, .int .i64 0, .slice none 0 0, .slice none 0 0, .slice none 0 0] 26))) := HR.out.up (bl_al (Below.refl _ _) _)
  have HGI : Hid ((w1.alloc (.cells #[.int .i64 2, .int .i64 nn, .int .i64 0, .slice none 0 0, .slice none 0 0, .slice none 0 0] 26)).heap[w1.heap.size]? = some (.cells #[.int .i64 2, .int .i64 nn, .int .i64 0, .slice none 0 0, .slice none 0 0, .slice none 0 0] 26 (0, 0)) ∧ q + 1 < w1.heap.size) := ⟨heap_alloc_new w1 _, HR.out.lt⟩
  clear HR
  go_upto_region 34 with fail
  clear c00 c01 c10 c12 d0 d1
  generalize w1.alloc (.cells #[.int .i64 2, .int .i64 nn, .int .i64 0, .slice none 0 0, .slice none 0 0, .slice none 0 0] 26) = w2 at *
  generalize w1.heap.size = gi at *
  go_wp2_with fail
  refine (HW.out _).mono ?_
  rintro e w3 ⟨rfl, rfl⟩
  clear HW
  obtain ⟨B, hB⟩ : ∃ B, B = w2.heap.size := ⟨_, rfl⟩
  have K0 : Hid (RN eK s T w q g cap 2 w2 B 0 (.slice none 0 0) w2) := ⟨HR2.out, hB, by rw [hB]; exact Below.refl _ _, by rw [show enc (nmL T 2 0) = [] from rfl]; exact World.ownsRow_nil _ _ _ _, fun i hi => by omega, by rw [hB]; exact Nat.le_refl _⟩
  have HB := Lib.hid hB
  clear hB
  have hdec : decide ((24 : Int) < (nn : Int)) = false := by simp; omega
  go_wp2
  try rw [hdec]
  clear hdec
  go_loopw [13, 14, 15] (fun kv nv mv wr => ∃ (j : Nat) (vN : Value), j ≤ (nn * nn) ∧ kv = .int .i64 ((2 + j : Nat) : Int) ∧ nv = vN ∧ mv = .int .i64 ((((nn * nn) - j : Nat)) : Int) ∧ Hid (RN eK s T w q g cap 2 w2 B j vN wr)) (fun _ _ mv _ => (intOf mv).toNat)
  case atStart => exact ⟨0, _, by omega, rfl, rfl, rfl, K0⟩
  case round =>
    clear K0
    obtain ⟨j, vN, hj, rfl, hvN, rfl, HK⟩ := hrel
    have hvN2 := hvN.symm
    clear hvN
    subst hvN2
    have hlt := HIX.out j HK.out.ok
    obtain ⟨pk, hpk⟩ : ∃ pk, pk = 2 + j := ⟨_, rfl⟩
    rw [← hpk] at hlt ⊢
    have HPK := Lib.hid hpk
    have q1 : (pk : Int) < (T.length : Int) := by omega
    have q2 : (0 : Int) ≤ (pk : Int) := by omega
    obtain ⟨t, ht⟩ : ∃ t, t = tk T pk := ⟨_, rfl⟩
    obtain ⟨c0, c1, c2, c3⟩ := HK.out.rh.tr.at hlt
    rw [← ht] at c0 c1 c2 c3
    have HTK := Lib.hid ht
    have HKD : Hid (t.kind = 1 ∨ t.kind = 2 ∨ t.kind = 3) := by rw [ht]; exact (HKI.out.kinds pk).imp id (Or.imp And.left And.left)
    clear ht hlt
    by_cases hjl : j < (nn * nn)
    · clear hpk
      have gm : (0 : Int) < (((nn * nn) - j : Nat) : Int) := by omega
      obtain ⟨mj, hmj⟩ : ∃ mj, mj = (nn * nn) - j := ⟨_, rfl⟩
      rw [← hmj] at gm ⊢
      have hmj2 : (nn * nn) - (j + 1) = mj - 1 := by omega
      have hmj1 : 1 ≤ mj := by omega
      have hmj3 : mj ≤ (nn * nn) := by omega
      have hmj4 : (nn * nn) ≤ 2000 := by have := HCB.out ((nn * nn) - 1) (by omega); omega
      have HMJ := Lib.hid (And.intro hmj2 (And.intro hmj1 (Nat.le_trans hmj3 hmj4)))
      clear hmj hmj2 hmj1 hmj3 hmj4 hj
      go_upto_region 38 with fail
      clear c0 c1 c2 c3
      have HR3 : Hid (RH s T w q g cap (wr.alloc (.cells #[.int .i64 t.kind, .string t.text, .int .i64 t.num, .int .i64 t.at_] 51))) := HK.out.rh.up (bl_al (Below.refl _ _) _)
      have HT3 : Hid ((wr.alloc (.cells #[.int .i64 t.kind, .string t.text, .int .i64 t.num, .int .i64 t.at_] 51)).heap[wr.heap.size]? = some (.cells #[.int .i64 t.kind, .string t.text, .int .i64 t.num, .int .i64 t.at_] 51 (0, 0)) ∧ q ≠ wr.heap.size ∧ q + 1 ≠ wr.heap.size) := ⟨heap_alloc_new _ _, by have := HK.out.rh.lt; omega, by have := HK.out.rh.lt; omega⟩
      have HK3 := Lib.hid (HK.out.alloc (.cells #[.int .i64 t.kind, .string t.text, .int .i64 t.num, .int .i64 t.at_] 51))
      obtain ⟨tb, htb⟩ : ∃ tb, tb = wr.heap.size := ⟨_, rfl⟩
      rw [← htb] at HT3 ⊢
      clear htb HK
      generalize wr.alloc (.cells #[.int .i64 t.kind, .string t.text, .int .i64 t.num, .int .i64 t.at_] 51) = w3 at *
      obtain ⟨t0, t2, t3⟩ : w3.cell? ⟨tb, 0, none⟩ = some (.int .i64 t.kind) ∧ w3.cell? ⟨tb, 2, none⟩ = some (.int .i64 t.num) ∧ w3.cell? ⟨tb, 3, none⟩ = some (.int .i64 t.at_) := ⟨cell_of_row _ _ 0 _ _ _ HT3.out.1, cell_of_row _ _ 2 _ _ _ HT3.out.1, cell_of_row _ _ 3 _ _ _ HT3.out.1⟩
      by_cases k3 : t.kind = 3
      · rw [k3] at t0
        have HPR : Hid (PR T = .bad t.at_ 6) := by
          have := HPE.out j 6 hjl HK3.out.ok (by rw [← HPK.out, ← HTK.out]; exact eE3 k3) (by decide)
          rw [← HPK.out, ← HTK.out] at this
          exact this
        clear k3
        obtain ⟨av, hav⟩ : ∃ av, av = t.at_ := ⟨_, rfl⟩
        rw [← hav] at t3 HPR
        clear hav HK3 HIX HPE HPT HPG HKI HMJ HKD HPK HTK hjl
        have b1 := HR3.out.hq; have b2 := HR3.out.hz; have b3 := HT3.out.2.1; have b4 := HR3.out.bel
        have b0 : q ≠ q + 1 := by omega
        clear HR3 HT3
        have HZ := Lib.hid (ret_zero w3 q (q + 1) tb 3 av (by assumption) (by assumption) (by assumption) (by assumption) (by assumption) (by assumption))
        go_wp2
        refine wp_region_held_drew (S := ZS (q + 1) tb 3 av) (by kernel_rfl) HZ.out.1 (fun hHeld => ?_)
        obtain ⟨-, HY, ⟨z0, z1, z2, z3, z4, z5⟩, ⟨f0, f1, f2, f3, f4, f5⟩, R6, BZ⟩ := HZ.out
        have HYh := Lib.hid HY
        unfold z6 at R6
        have R6h := Lib.hid R6
        have BZh := Lib.hid BZ
        clear HZ HY R6 BZ
        generalize World.drew _ = W3 at *
        refine wpAnyH_take (i := 0) (v := ?va1) (by rw [List.getElem?_toArray]; rfl) (by kernel_rfl) (by kernel_rfl) (by kernel_rfl) ?qa1 (Or.inl ⟨by rfl, ?ya1⟩) hHeld ?ra1
        case qa1 => exact fun _ _ _ h => h
        case ya1 => (intro wz hSw; obtain ⟨⟨s0, s1, s2, s3, s4, s5⟩, s6⟩ := hSw; go_simp; try (with_reducible rfl))
        simp only [Act.put, List.setIfInBounds_toArray, List.set_cons_zero, List.set_cons_succ]
        refine wpAnyH_take (i := 1) (v := ?va2) (by rw [List.getElem?_toArray]; rfl) (by kernel_rfl) (by kernel_rfl) (by kernel_rfl) ?qa2 (Or.inl ⟨by rfl, ?ya2⟩) hHeld ?ra2
        case qa2 => exact fun _ _ _ h => h
        case ya2 => (intro wz hSw; obtain ⟨⟨s0, s1, s2, s3, s4, s5⟩, s6⟩ := hSw; go_simp; try (with_reducible rfl))
        simp only [Act.put, List.setIfInBounds_toArray, List.set_cons_zero, List.set_cons_succ]
        refine wpAnyH_take (i := 2) (v := ?va3) (by rw [List.getElem?_toArray]; rfl) (by kernel_rfl) (by kernel_rfl) (by kernel_rfl) ?qa3 (Or.inl ⟨by rfl, ?ya3⟩) hHeld ?ra3
        case qa3 => exact fun _ _ _ h => h
        case ya3 => (intro wz hSw; obtain ⟨⟨s0, s1, s2, s3, s4, s5⟩, s6⟩ := hSw; go_simp; try (with_reducible rfl))
        simp only [Act.put, List.setIfInBounds_toArray, List.set_cons_zero, List.set_cons_succ]
        refine wpAnyH_ready (rs := [3]) (by kernel_rfl) (by simp) ?_
        refine AllReadyH.cons (by rw [List.getElem?_toArray]; rfl) (fun K hK => ?_) AllReadyH.nil
        clear hHeld
        go_simp
        refine hK.out _ _ HYh.out (fun hHeld => ?_)
        clear hK K HYh
        refine wpAnyH_take (i := 4) (v := ?va4) (by rw [List.getElem?_toArray]; rfl) (by kernel_rfl) (by kernel_rfl) (by kernel_rfl) ?qa4 (Or.inl ⟨by rfl, ?ya4⟩) hHeld ?ra4
        case qa4 => exact fun _ _ _ h => h
        case ya4 => (intro wz hSw; clear hSw; go_simp; try (with_reducible rfl))
        simp only [Act.put, List.setIfInBounds_toArray, List.set_cons_zero, List.set_cons_succ]
        refine wpAnyH_take (i := 5) (v := ?va5) (by rw [List.getElem?_toArray]; rfl) (by kernel_rfl) (by kernel_rfl) (by kernel_rfl) ?qa5 (Or.inl ⟨by rfl, ?ya5⟩) hHeld ?ra5
        case qa5 => exact fun _ _ _ h => h
        case ya5 => (intro wz hSw; clear hSw; go_simp; try (with_reducible rfl))
        simp only [Act.put, List.setIfInBounds_toArray, List.set_cons_zero, List.set_cons_succ]
        refine wpAnyH_done (by kernel_rfl) ?_ _
        clear hHeld
        go_wp2
        obtain ⟨r0, r1, r2, r3, r4, r5⟩ := R6h.out
        exact bodyPost_ret (v := .tuple #[.agg #[.int .i64 0, .int .i64 0, .int .i64 0, .slice none 0 0, .slice none 0 0, .slice none 0 0], .int .i64 av, .int .i64 6]) (by simp [results, Try.results8, go_sem, r0, r1, r2, r3, r4, r5]) rfl (show PaR w (PR T) _ _ from by rw [HPR.out]; exact ⟨rfl, by rw [← HQ.out]; exact BZh.out⟩)
      · have d3 : (t.kind == 3) = false := by simpa using k3
        by_cases k1 : t.kind = 1
        · rw [k1] at t0
          clear d3
          have HPR : Hid (PR T = .bad t.at_ 4) := by
            have := HPE.out j 4 hjl HK3.out.ok (by rw [← HPK.out, ← HTK.out]; exact eE1 k1) (by decide)
            rw [← HPK.out, ← HTK.out] at this
            exact this
          clear k1 k3
          obtain ⟨av, hav⟩ : ∃ av, av = t.at_ := ⟨_, rfl⟩
          rw [← hav] at t3 HPR
          clear hav HK3 HIX HPE HPT HPG HKI HMJ HKD HPK HTK hjl
          have b1 := HR3.out.hq; have b2 := HR3.out.hz; have b3 := HT3.out.2.1; have b4 := HR3.out.bel
          have b0 : q ≠ q + 1 := by omega
          clear HR3 HT3
          have HZ := Lib.hid (ret_zero w3 q (q + 1) tb 3 av (by assumption) (by assumption) (by assumption) (by assumption) (by assumption) (by assumption))
          go_wp2
          refine wp_region_held_drew (S := ZS (q + 1) tb 3 av) (by kernel_rfl) HZ.out.1 (fun hHeld => ?_)
          obtain ⟨-, HY, ⟨z0, z1, z2, z3, z4, z5⟩, ⟨f0, f1, f2, f3, f4, f5⟩, R6, BZ⟩ := HZ.out
          have HYh := Lib.hid HY
          unfold z6 at R6
          have R6h := Lib.hid R6
          have BZh := Lib.hid BZ
          clear HZ HY R6 BZ
          generalize World.drew _ = W3 at *
          refine wpAnyH_take (i := 0) (v := ?va6) (by rw [List.getElem?_toArray]; rfl) (by kernel_rfl) (by kernel_rfl) (by kernel_rfl) ?qa6 (Or.inl ⟨by rfl, ?ya6⟩) hHeld ?ra6
          case qa6 => exact fun _ _ _ h => h
          case ya6 => (intro wz hSw; obtain ⟨⟨s0, s1, s2, s3, s4, s5⟩, s6⟩ := hSw; go_simp; try (with_reducible rfl))
          simp only [Act.put, List.setIfInBounds_toArray, List.set_cons_zero, List.set_cons_succ]
          refine wpAnyH_take (i := 1) (v := ?va7) (by rw [List.getElem?_toArray]; rfl) (by kernel_rfl) (by kernel_rfl) (by kernel_rfl) ?qa7 (Or.inl ⟨by rfl, ?ya7⟩) hHeld ?ra7
          case qa7 => exact fun _ _ _ h => h
          case ya7 => (intro wz hSw; obtain ⟨⟨s0, s1, s2, s3, s4, s5⟩, s6⟩ := hSw; go_simp; try (with_reducible rfl))
          simp only [Act.put, List.setIfInBounds_toArray, List.set_cons_zero, List.set_cons_succ]
          refine wpAnyH_take (i := 2) (v := ?va8) (by rw [List.getElem?_toArray]; rfl) (by kernel_rfl) (by kernel_rfl) (by kernel_rfl) ?qa8 (Or.inl ⟨by rfl, ?ya8⟩) hHeld ?ra8
          case qa8 => exact fun _ _ _ h => h
          case ya8 => (intro wz hSw; obtain ⟨⟨s0, s1, s2, s3, s4, s5⟩, s6⟩ := hSw; go_simp; try (with_reducible rfl))
          simp only [Act.put, List.setIfInBounds_toArray, List.set_cons_zero, List.set_cons_succ]
          refine wpAnyH_ready (rs := [3]) (by kernel_rfl) (by simp) ?_
          refine AllReadyH.cons (by rw [List.getElem?_toArray]; rfl) (fun K hK => ?_) AllReadyH.nil
          clear hHeld
          go_simp
          refine hK.out _ _ HYh.out (fun hHeld => ?_)
          clear hK K HYh
          refine wpAnyH_take (i := 4) (v := ?va9) (by rw [List.getElem?_toArray]; rfl) (by kernel_rfl) (by kernel_rfl) (by kernel_rfl) ?qa9 (Or.inl ⟨by rfl, ?ya9⟩) hHeld ?ra9
          case qa9 => exact fun _ _ _ h => h
          case ya9 => (intro wz hSw; clear hSw; go_simp; try (with_reducible rfl))
          simp only [Act.put, List.setIfInBounds_toArray, List.set_cons_zero, List.set_cons_succ]
          refine wpAnyH_take (i := 5) (v := ?va10) (by rw [List.getElem?_toArray]; rfl) (by kernel_rfl) (by kernel_rfl) (by kernel_rfl) ?qa10 (Or.inl ⟨by rfl, ?ya10⟩) hHeld ?ra10
          case qa10 => exact fun _ _ _ h => h
          case ya10 => (intro wz hSw; clear hSw; go_simp; try (with_reducible rfl))
          simp only [Act.put, List.setIfInBounds_toArray, List.set_cons_zero, List.set_cons_succ]
          refine wpAnyH_done (by kernel_rfl) ?_ _
          clear hHeld
          go_wp2
          obtain ⟨r0, r1, r2, r3, r4, r5⟩ := R6h.out
          exact bodyPost_ret (v := .tuple #[.agg #[.int .i64 0, .int .i64 0, .int .i64 0, .slice none 0 0, .slice none 0 0, .slice none 0 0], .int .i64 av, .int .i64 4]) (by simp [results, Try.results8, go_sem, r0, r1, r2, r3, r4, r5]) rfl (show PaR w (PR T) _ _ from by rw [HPR.out]; exact ⟨rfl, by rw [← HQ.out]; exact BZh.out⟩)
        · have k2 : t.kind = 2 := by rcases HKD.out with h | h | h <;> omega
          rw [k2] at t0
          clear d3
          by_cases k5 : 2147483647 < t.num
          · have HPR : Hid (PR T = .bad t.at_ 5) := by
              have := HPE.out j 5 hjl HK3.out.ok (by rw [← HPK.out, ← HTK.out]; exact eE5 k2 k5) (by decide)
              rw [← HPK.out, ← HTK.out] at this
              exact this
            clear k1 k2 k3
            have d5 := k5
            obtain ⟨nu, hnu⟩ : ∃ nu, nu = t.num := ⟨_, rfl⟩
            rw [← hnu] at t2 d5
            clear hnu k5
            obtain ⟨av, hav⟩ : ∃ av, av = t.at_ := ⟨_, rfl⟩
            rw [← hav] at t3 HPR
            clear hav HK3 HIX HPE HPT HPG HKI HMJ HKD HPK HTK hjl
            have b1 := HR3.out.hq; have b2 := HR3.out.hz; have b3 := HT3.out.2.1; have b4 := HR3.out.bel
            have b0 : q ≠ q + 1 := by omega
            clear HR3 HT3
            have HZ := Lib.hid (ret_zero w3 q (q + 1) tb 3 av (by assumption) (by assumption) (by assumption) (by assumption) (by assumption) (by assumption))
            go_wp2
            refine wp_region_held_drew (S := ZS (q + 1) tb 3 av) (by kernel_rfl) HZ.out.1 (fun hHeld => ?_)
            obtain ⟨-, HY, ⟨z0, z1, z2, z3, z4, z5⟩, ⟨f0, f1, f2, f3, f4, f5⟩, R6, BZ⟩ := HZ.out
            have HYh := Lib.hid HY
            unfold z6 at R6
            have R6h := Lib.hid R6
            have BZh := Lib.hid BZ
            clear HZ HY R6 BZ
            generalize World.drew _ = W3 at *
            refine wpAnyH_take (i := 0) (v := ?va11) (by rw [List.getElem?_toArray]; rfl) (by kernel_rfl) (by kernel_rfl) (by kernel_rfl) ?qa11 (Or.inl ⟨by rfl, ?ya11⟩) hHeld ?ra11
            case qa11 => exact fun _ _ _ h => h
            case ya11 => (intro wz hSw; obtain ⟨⟨s0, s1, s2, s3, s4, s5⟩, s6⟩ := hSw; go_simp; try (with_reducible rfl))
            simp only [Act.put, List.setIfInBounds_toArray, List.set_cons_zero, List.set_cons_succ]
            refine wpAnyH_take (i := 1) (v := ?va12) (by rw [List.getElem?_toArray]; rfl) (by kernel_rfl) (by kernel_rfl) (by kernel_rfl) ?qa12 (Or.inl ⟨by rfl, ?ya12⟩) hHeld ?ra12
            case qa12 => exact fun _ _ _ h => h
            case ya12 => (intro wz hSw; obtain ⟨⟨s0, s1, s2, s3, s4, s5⟩, s6⟩ := hSw; go_simp; try (with_reducible rfl))
            simp only [Act.put, List.setIfInBounds_toArray, List.set_cons_zero, List.set_cons_succ]
            refine wpAnyH_take (i := 2) (v := ?va13) (by rw [List.getElem?_toArray]; rfl) (by kernel_rfl) (by kernel_rfl) (by kernel_rfl) ?qa13 (Or.inl ⟨by rfl, ?ya13⟩) hHeld ?ra13
            case qa13 => exact fun _ _ _ h => h
            case ya13 => (intro wz hSw; obtain ⟨⟨s0, s1, s2, s3, s4, s5⟩, s6⟩ := hSw; go_simp; try (with_reducible rfl))
            simp only [Act.put, List.setIfInBounds_toArray, List.set_cons_zero, List.set_cons_succ]
            refine wpAnyH_ready (rs := [3]) (by kernel_rfl) (by simp) ?_
            refine AllReadyH.cons (by rw [List.getElem?_toArray]; rfl) (fun K hK => ?_) AllReadyH.nil
            clear hHeld
            go_simp
            refine hK.out _ _ HYh.out (fun hHeld => ?_)
            clear hK K HYh
            refine wpAnyH_take (i := 4) (v := ?va14) (by rw [List.getElem?_toArray]; rfl) (by kernel_rfl) (by kernel_rfl) (by kernel_rfl) ?qa14 (Or.inl ⟨by rfl, ?ya14⟩) hHeld ?ra14
            case qa14 => exact fun _ _ _ h => h
            case ya14 => (intro wz hSw; clear hSw; go_simp; try (with_reducible rfl))
            simp only [Act.put, List.setIfInBounds_toArray, List.set_cons_zero, List.set_cons_succ]
            refine wpAnyH_take (i := 5) (v := ?va15) (by rw [List.getElem?_toArray]; rfl) (by kernel_rfl) (by kernel_rfl) (by kernel_rfl) ?qa15 (Or.inl ⟨by rfl, ?ya15⟩) hHeld ?ra15
            case qa15 => exact fun _ _ _ h => h
            case ya15 => (intro wz hSw; clear hSw; go_simp; try (with_reducible rfl))
            simp only [Act.put, List.setIfInBounds_toArray, List.set_cons_zero, List.set_cons_succ]
            refine wpAnyH_done (by kernel_rfl) ?_ _
            clear hHeld
            go_wp2
            obtain ⟨r0, r1, r2, r3, r4, r5⟩ := R6h.out
            exact bodyPost_ret (v := .tuple #[.agg #[.int .i64 0, .int .i64 0, .int .i64 0, .slice none 0 0, .slice none 0 0, .slice none 0 0], .int .i64 av, .int .i64 5]) (by simp [results, Try.results8, go_sem, r0, r1, r2, r3, r4, r5]) rfl (show PaR w (PR T) _ _ from by rw [HPR.out]; exact ⟨rfl, by rw [← HQ.out]; exact BZh.out⟩)
          · have E0 : eK j t = 0 := eE0 k2 k5
            have d5 : ¬ 2147483647 < t.num := k5
            have hcb : j < 2000 := HCB.out j hjl
            have HN := Lib.hid (nmL_succ T 2 j)
            rw [← HPK.out, ← HTK.out] at HN
            have HOK : Hid (∀ i, i < j + 1 → eK i (tk T (2 + i)) = 0) := fun i hi => by
              by_cases e : i = j
              · subst e; rw [← HPK.out, ← HTK.out]; exact E0
              · exact HK3.out.ok i (by omega)
            clear E0
            obtain ⟨nu, hnu⟩ : ∃ nu, nu = t.num := ⟨_, rfl⟩
            rw [← hnu] at t2 HN
            rw [← hnu] at d5
            clear k1 k2 k3 k5 HKD HTK
            clear hnu
            have e1 : IntKind.i64.wrap ((pk : Int) + 1) = (pk : Int) + 1 := IntWalk.i64_in _ (by have := HKI.out.len; omega)
            have e2 : IntKind.i64.wrap ((mj : Int) - 1) = (mj : Int) - 1 := IntWalk.i64_in _ (by have := HMJ.out.2.2; omega)
            have hsz3 : B ≤ (w3.alloc (.cells #[.int .i64 nu] 3)).heap.size := by rw [World.size_alloc]; have := HK3.out.sz; omega
            go_wp2_with (at_builtin; refine wpList_append_own _ rfl _ _ 23 rfl B 3 i0 (.int .i64 0) 1 8 Try.underlying23 hi hz0 hz1 hz2 rfl (by decide) vN j _ rfl (HK3.out.row.alloc _) ⟨w3.heap.size, 0, none⟩ 1 1 [.int .i64 nu] rfl rfl (cell_one_new _ _ _) (by simp [Value.oneCell']) (by unfold maxLen; omega) (by omega) hsz3 ?_)
            intro v2 w4 hown hgrow _
            have HN4 : Hid (RN eK s T w q g cap 2 w2 B (j + 1) v2 w4) := HK3.out.app HN.out hown hgrow HOK.out
            clear hown hgrow hsz3 HK3 HN HOK HR3 HT3 t0 t2 t3
            go_wp2
            go_roundw
            case rel => exact ⟨j + 1, _, by omega, by rw [HPK.out]; go_num, rfl, by rw [HMJ.out.1]; have := HMJ.out.2.1; go_num, HN4⟩
            case measure => have := HMJ.out.2.1; simp [intOf]; omega
    · obtain rfl : j = (nn * nn) := by omega
      obtain ⟨cn, hcn⟩ : ∃ cn, cn = (nn * nn) := ⟨_, rfl⟩
      have HCN := Lib.hid hcn
      have hc1 : 1 ≤ cn := by rw [hcn]; exact Nat.mul_le_mul h2 h2
      rw [Nat.sub_self, show ((0 : Nat) : Int) = 0 from rfl]
      rw [← hcn] at HK HPT HPG hpk
      clear hcn HPE HIX HKI HKD hj
      by_cases k3 : t.kind = 3
      · have HPR : Hid (PR T = PGasg T nn) := HPG.out HK.out.ok (by rw [← hpk, ← HTK.out]; exact k3)
        rw [k3] at c0
        clear HPG HPT k3 HTK hpk HPK c1 c2 c3
        obtain ⟨i23, hi23, hy0, hy1, hy2⟩ := info_parts info23
        obtain ⟨gl, cl, rfl, hgl1, hgl2⟩ := HK.out.row.form (by omega)
        obtain ⟨B2, hB2⟩ : ∃ B2, B2 = wr.heap.size := ⟨_, rfl⟩
        obtain ⟨wL, hwL⟩ : ∃ wL, wL = wr := ⟨_, rfl⟩
        have hgi : gi < w2.heap.size := lt_blk HGI.out.1
        have HNM : Hid (∀ i, i < cn → wL.cell? ⟨gl, i, none⟩ = some (.int .i64 (tk T (2 + i)).num)) := fun i hi => by
          rw [hwL, HK.out.row.cellAt i (by omega)]; exact nmL_at T 2 cn i hi
        have hbox : wL.heap[gi]? = some (.cells #[.int .i64 2, .int .i64 nn, .int .i64 0, .slice none 0 0, .slice none 0 0, .slice none 0 0] 26 (0, 0)) := by
          rw [hwL]; exact (HK.out.bel.block gi (by rw [HK.out.hB]; exact hgi)).trans HGI.out.1
        have HL : Hid (gl < B2 ∧ gl ≠ gi ∧ q < B2 ∧ q + 1 < gi ∧ gi < B2) := by
          have a1 := HK.out.hB
          have a2 := HK.out.sz
          have a3 := HGI.out.2
          have a4 : q < w2.heap.size := by have := HR2.out.lt; omega
          refine ⟨by omega, by omega, by omega, a3, by omega⟩
        have HQL : Hid (wL.heap[q]? = some zo ∧ Below q w wL) := by rw [hwL]; exact ⟨HK.out.rh.hq, HK.out.rh.bel⟩
        have bk := (ip.box6 hbox).1
        rw [hwL] at bk
        have K1 : Hid (RT 2 nn gi B2 wL (MA T 2 nn) 0 (.slice none 0 0) (fun _ => 0) wr) := ⟨by rw [← hwL]; exact hbox, by rw [tl3_zero]; exact World.ownsRow_nil _ _ _ _, fun j hj => by omega, by rw [hwL]; exact Up.refl _ _ _, by rw [hB2]; exact Nat.le_refl _, HL.out.2.2.2.2⟩
        have HWL := Lib.hid hwL
        have HB2 := Lib.hid hB2
        clear HK hgl1 hgl2 hgi hbox HGI hwL hB2
        go_wp2
        clear bk c0
        go_loopw [19] (fun i wr => ∃ (a : Nat) (vC : Value) (gs : Nat → Nat), a ≤ nn ∧ i = .int .i64 a ∧ Hid (RT 2 nn gi B2 wL (MA T 2 nn) a vC gs wr)) (fun i _ => nn - (intOf i).toNat)
        case atStart => exact ⟨0, _, _, by omega, rfl, K1⟩
        case round =>
          clear K1
          obtain ⟨a, vC, gs, ha, rfl, HC⟩ := hrel
          by_cases hal : a < nn
          · have q1 : (a : Int) < (nn : Int) := by omega
            have q2 : (0 : Int) ≤ (a : Int) := by omega
            obtain ⟨w5, hrun, hr5, hg5⟩ := run_make_full (P := Try.prog) wr B2 23 3 i0 (.int .i64 0) 1 Try.underlying23 hi hz0 hz1 .i64 .i64 nn (by rw [hz2]; omega) (by unfold maxLen; omega) HC.out.sz
            have hr4 : w5.ownsRow B2 3 1 (.slice (some ⟨wr.heap.size, 0, none⟩) nn nn) nn (rwv (Mc (MA T 2 nn) 0) nn a) := by have := hr5; rw [Nat.mul_one] at this; rw [Mc_zero, toList_one]; exact this
            have HI0 := Lib.hid (HC.out.begin hr4 hg5)
            clear hr5 hr4 hg5 HC
            generalize wr = wo at *
            go_wp2
            generalize wo.heap.size = gr at *
            clear hrun
            go_loopw [21] (fun i wr2 => ∃ c : Nat, c ≤ nn ∧ i = .int .i64 c ∧ Hid (RTI 2 nn gi B2 wL (MA T 2 nn) a vC gs gr c wr2)) (fun i _ => nn - (intOf i).toNat)
            case atStart => exact ⟨0, by omega, rfl, HI0⟩
            case round =>
              clear HI0
              obtain ⟨c, hc, rfl, HI⟩ := hrel
              by_cases hcl : c < nn
              · have q3 : (c : Int) < (nn : Int) := by omega
                have q4 : (0 : Int) ≤ (c : Int) := by omega
                obtain ⟨ia, hia⟩ : ∃ ia, ia = a * nn := ⟨_, rfl⟩
                obtain ⟨ix, hix⟩ : ∃ ix, ix = ia + c := ⟨_, rfl⟩
                have hib : ix < cn ∧ cn ≤ 576 := by
                  rw [HCN.out, hix, hia]
                  have a1 : (a + 1) * nn ≤ nn * nn := Nat.mul_le_mul_right _ hal
                  rw [Nat.succ_mul] at a1
                  have a2 := nn_lt h3
                  omega
                have eM : ((a * nn : Nat) : Int) = (a : Int) * (nn : Int) := by push_cast; rfl
                have e1 : IntKind.i64.wrap ((a : Int) * (nn : Int)) = (ia : Int) := (IntWalk.i64_in _ (by omega)).trans (by rw [hia]; exact eM.symm)
                clear eM
                have e2 : IntKind.i64.wrap ((ia : Int) + (c : Int)) = (ix : Int) := (IntWalk.i64_in _ (by omega)).trans (by rw [hix]; push_cast; rfl)
                have q5 : (ix : Int) < (cn : Int) := by omega
                have q6 : (0 : Int) ≤ (ix : Int) := by omega
                have cnu := (HI.out.t.far HL.out.1 HL.out.2.1 ix).trans (HNM.out ix hib.1)
                have hM : (tk T (2 + ix)).num = (MA T 2 nn) a c := by rw [hix, hia]; rfl
                rw [hM] at cnu
                have c5 := (HI.out.row.cellAt c (by omega)).trans (rwv_at _ _ _ _ hcl)
                have f5 := HI.out.row.frozenAt c
                have HN := Lib.hid (HI.out.store (x := (MA T 2 nn) a c) rfl)
                clear hib hM hix hia HI
                go_wp2
                go_roundw
                case rel => exact ⟨c + 1, by omega, by go_num, HN⟩
                case measure => simp [intOf]; omega
              · obtain rfl : c = nn := by omega
                have hbs : B2 ≤ (wr.alloc (.cells #[.slice (some ⟨gr, 0, none⟩) c c] 23)).heap.size := by rw [World.size_alloc]; have := HI.out.t.sz; omega
                have x1 := cell_of_row _ gi 5 _ 26 _ HI.out.t.box
                simp at x1
                go_wp2_with (at_builtin; refine wpList_append_lies _ rfl _ _ 24 rfl B2 23 i23 (.slice none 0 0) 1 24 Try.underlying24 hi23 hy0 hy1 hy2 rfl (by decide) vC a _ rfl (HI.out.t.top.alloc _) ⟨wr.heap.size, 0, none⟩ 1 1 [.slice (some ⟨gr, 0, none⟩) c c] rfl rfl (cell_one_new _ _ _) (by simp [Value.oneCell']) (by decide) (by unfold maxLen; omega) (by omega) hbs _ rfl ?_)
                intro g5 cap5 w6 hown5 hgrow5 hl5 hlt5
                obtain ⟨hp1, hp2, hp3⟩ := HI.out.put hown5 hgrow5
                have HN := Lib.hid hp1
                clear hown5 hgrow5 hl5 hlt5 HI hbs x1 hp1
                go_wp2
                go_roundw
                case rel => exact ⟨a + 1, _, _, by omega, by go_num, HN⟩
                case measure => simp [intOf]; omega
          · obtain rfl : a = nn := by omega
            obtain ⟨gt, ct, rfl, hgt1, hgt2⟩ := HC.out.top.form (by omega)
            have hq := (HC.out.up.block q HL.out.2.2.1 (by have := HL.out.2.2.2.1; omega)).trans HQL.out.1
            unfold zo at hq
            have HBQ : Hid (Below q w wr) := ⟨HC.out.up.os.trans HQL.out.2.os, HC.out.up.tape.trans HQL.out.2.tape, HC.out.up.output.trans HQL.out.2.output, Nat.le_trans HQL.out.2.size HC.out.up.size, fun k hk => by have := HL.out; exact (HC.out.up.block k (by omega) (by omega)).trans (HQL.out.2.block k hk)⟩
            obtain ⟨y0, y1, y2, y3, y4, y5⟩ := ip.box6 HC.out.box
            obtain ⟨z0, z1, z2, z3, z4, z5⟩ := ip.box6 hq
            have zf := ip.fr6 hq
            have f0 := zf 0; have f1 := zf 1; have f2 := zf 2; have f3 := zf 3; have f4 := zf 4; have f5 := zf 5
            have R6 := Lib.hid (ip.box6 (ip.six hq (.int .i64 2) (.int .i64 a) (.int .i64 0) (.slice none 0 0) (.slice none 0 0) (.slice (some ⟨gt, 0, none⟩) a ct)))
            have FN : Hid (PaR w (PR T) (.returned (.tuple #[.agg #[.int .i64 2, .int .i64 a, .int .i64 0, .slice none 0 0, .slice none 0 0, .slice (some ⟨gt, 0, none⟩) a ct], .int .i64 0, .int .i64 0])) ((((((wr.setCell ⟨q, 0, none⟩ (.int .i64 2)).setCell ⟨q, 1, none⟩ (.int .i64 a)).setCell ⟨q, 2, none⟩ (.int .i64 0)).setCell ⟨q, 3, none⟩ (.slice none 0 0)).setCell ⟨q, 4, none⟩ (.slice none 0 0)).setCell ⟨q, 5, none⟩ (.slice (some ⟨gt, 0, none⟩) a ct))) := tab_out HC.out HL.out.2.2.1 (by omega) HBQ.out HQ.out HPR.out _ _ _ _ _ _
            clear HC hq zf hgt1 hgt2 HBQ
            go_wp2
            obtain ⟨r0, r1, r2, r3, r4, r5⟩ := R6.out
            exact bodyPost_ret (v := .tuple #[.agg #[.int .i64 2, .int .i64 a, .int .i64 0, .slice none 0 0, .slice none 0 0, .slice (some ⟨gt, 0, none⟩) a ct], .int .i64 0, .int .i64 0]) (by simp [results, Try.results8, go_sem, r0, r1, r2, r3, r4, r5]) rfl FN.out
      · have HPR : Hid (PR T = .bad t.at_ 7) := by
          have := HPT.out HK.out.ok (by rw [← hpk, ← HTK.out]; exact k3)
          rw [← hpk, ← HTK.out] at this
          exact this
        have d3 : (t.kind != 3) = true := by simpa using k3
        obtain ⟨av, hav⟩ : ∃ av, av = t.at_ := ⟨_, rfl⟩
        rw [← hav] at c3 HPR
        have b1 := HK.out.rh.hq; have b2 := HK.out.rh.hz; have b3 := HK.out.rh.gq; have b4 := HK.out.rh.bel
        have b0 : q ≠ q + 1 := by omega
        have mp : pk < T.length := by omega
        generalize t.kind = kd at *
        clear HPG HPT k3 HTK hpk HPK c1 c2 HK hav
        have HZ := Lib.hid (ret_zero wr q (q + 1) g (pk * 4 + 3) av (by assumption) (by assumption) (by assumption) (by assumption) (by assumption) (by assumption))
        go_wp2
        refine wp_region_held_drew (S := ZS (q + 1) g (pk * 4 + 3) av) (by kernel_rfl) HZ.out.1 (fun hHeld => ?_)
        obtain ⟨-, HY, ⟨z0, z1, z2, z3, z4, z5⟩, ⟨f0, f1, f2, f3, f4, f5⟩, R6, BZ⟩ := HZ.out
        have HYh := Lib.hid HY
        unfold z6 at R6
        have R6h := Lib.hid R6
        have BZh := Lib.hid BZ
        clear HZ HY R6 BZ
        generalize World.drew _ = W3 at *
        refine wpAnyH_take (i := 0) (v := ?va16) (by rw [List.getElem?_toArray]; rfl) (by kernel_rfl) (by kernel_rfl) (by kernel_rfl) ?qa16 (Or.inl ⟨by rfl, ?ya16⟩) hHeld ?ra16
        case qa16 => exact fun _ _ _ h => h
        case ya16 => (intro wz hSw; obtain ⟨⟨s0, s1, s2, s3, s4, s5⟩, s6⟩ := hSw; go_simp; try (with_reducible rfl))
        simp only [Act.put, List.setIfInBounds_toArray, List.set_cons_zero, List.set_cons_succ]
        refine wpAnyH_take (i := 1) (v := ?va17) (by rw [List.getElem?_toArray]; rfl) (by kernel_rfl) (by kernel_rfl) (by kernel_rfl) ?qa17 (Or.inl ⟨by rfl, ?ya17⟩) hHeld ?ra17
        case qa17 => exact fun _ _ _ h => h
        case ya17 => (intro wz hSw; obtain ⟨⟨s0, s1, s2, s3, s4, s5⟩, s6⟩ := hSw; go_simp; try (with_reducible rfl))
        simp only [Act.put, List.setIfInBounds_toArray, List.set_cons_zero, List.set_cons_succ]
        refine wpAnyH_take (i := 2) (v := ?va18) (by rw [List.getElem?_toArray]; rfl) (by kernel_rfl) (by kernel_rfl) (by kernel_rfl) ?qa18 (Or.inl ⟨by rfl, ?ya18⟩) hHeld ?ra18
        case qa18 => exact fun _ _ _ h => h
        case ya18 => (intro wz hSw; obtain ⟨⟨s0, s1, s2, s3, s4, s5⟩, s6⟩ := hSw; go_simp; try (with_reducible rfl))
        simp only [Act.put, List.setIfInBounds_toArray, List.set_cons_zero, List.set_cons_succ]
        refine wpAnyH_take (i := 3) (v := ?va19) (by rw [List.getElem?_toArray]; rfl) (by kernel_rfl) (by kernel_rfl) (by kernel_rfl) ?qa19 (Or.inl ⟨by rfl, ?ya19⟩) hHeld ?ra19
        case qa19 => exact fun _ _ _ h => h
        case ya19 => (intro wz hSw; obtain ⟨⟨s0, s1, s2, s3, s4, s5⟩, s6⟩ := hSw; go_simp; try (with_reducible rfl))
        simp only [Act.put, List.setIfInBounds_toArray, List.set_cons_zero, List.set_cons_succ]
        refine wpAnyH_take (i := 4) (v := ?va20) (by rw [List.getElem?_toArray]; rfl) (by kernel_rfl) (by kernel_rfl) (by kernel_rfl) ?qa20 (Or.inl ⟨by rfl, ?ya20⟩) hHeld ?ra20
        case qa20 => exact fun _ _ _ h => h
        case ya20 => (intro wz hSw; obtain ⟨⟨s0, s1, s2, s3, s4, s5⟩, s6⟩ := hSw; go_simp; try (with_reducible rfl))
        simp only [Act.put, List.setIfInBounds_toArray, List.set_cons_zero, List.set_cons_succ]
        refine wpAnyH_take (i := 5) (v := ?va21) (by rw [List.getElem?_toArray]; rfl) (by kernel_rfl) (by kernel_rfl) (by kernel_rfl) ?qa21 (Or.inl ⟨by rfl, ?ya21⟩) hHeld ?ra21
        case qa21 => exact fun _ _ _ h => h
        case ya21 => (intro wz hSw; obtain ⟨⟨s0, s1, s2, s3, s4, s5⟩, s6⟩ := hSw; go_simp; try (with_reducible rfl))
        simp only [Act.put, List.setIfInBounds_toArray, List.set_cons_zero, List.set_cons_succ]
        refine wpAnyH_ready (rs := [6]) (by kernel_rfl) (by simp) ?_
        refine AllReadyH.cons (by rw [List.getElem?_toArray]; rfl) (fun K hK => ?_) AllReadyH.nil
        clear hHeld
        go_simp
        refine hK.out _ _ HYh.out (fun hHeld => ?_)
        clear hK K HYh
        refine wpAnyH_take (i := 7) (v := ?va22) (by rw [List.getElem?_toArray]; rfl) (by kernel_rfl) (by kernel_rfl) (by kernel_rfl) ?qa22 (Or.inl ⟨by rfl, ?ya22⟩) hHeld ?ra22
        case qa22 => exact fun _ _ _ h => h
        case ya22 => (intro wz hSw; clear hSw; go_simp; try (with_reducible rfl))
        simp only [Act.put, List.setIfInBounds_toArray, List.set_cons_zero, List.set_cons_succ]
        refine wpAnyH_take (i := 8) (v := ?va23) (by rw [List.getElem?_toArray]; rfl) (by kernel_rfl) (by kernel_rfl) (by kernel_rfl) ?qa23 (Or.inl ⟨by rfl, ?ya23⟩) hHeld ?ra23
        case qa23 => exact fun _ _ _ h => h
        case ya23 => (intro wz hSw; clear hSw; go_simp; try (with_reducible rfl))
        simp only [Act.put, List.setIfInBounds_toArray, List.set_cons_zero, List.set_cons_succ]
        refine wpAnyH_done (by kernel_rfl) ?_ _
        clear hHeld
        go_wp2
        obtain ⟨r0, r1, r2, r3, r4, r5⟩ := R6h.out
        exact bodyPost_ret (v := .tuple #[.agg #[.int .i64 0, .int .i64 0, .int .i64 0, .slice none 0 0, .slice none 0 0, .slice none 0 0], .int .i64 av, .int .i64 7]) (by simp [results, Try.results8, go_sem, r0, r1, r2, r3, r4, r5]) rfl (show PaR w (PR T) _ _ from by rw [HPR.out]; exact ⟨rfl, by rw [← HQ.out]; exact BZh.out⟩)
set_option maxRecDepth 100000 in
set_option maxHeartbeats 16000000 in
theorem rp_full (s : ByteArray) (T : List Tok) (hT : Toks T) (nn : Nat) (w : World) (h0 : (tk T 0).kind = 1) (EW : (tk T 0).text = nm3) (h1 : (tk T 1).kind = 2) (hn : (tk T 1).num = nn) (h2 : 1 ≤ nn) (h3 : nn ≤ 24) (h4 : ¬ (tk T 2).kind = 3) (EV : (tk T 2).text = wFull) (HS : Hid (∀ W, Calls Try.prog 17 #[.string s] W fun e w' => ∃ v, e = .returned (.tuple #[v, .int .i64 0, .int .i64 0]) ∧ w'.ownsRow W.heap.size 51 4 v T.length (encL T) ∧ Below W.heap.size W w')) :
    Calls Try.prog 8 #[.string s] w (PaR w (PR T)) := by
  obtain ⟨i0, hi, hz0, hz1, hz2⟩ := info_parts info3
  have hPS := ps_full h0 EW h1 hn h2 h3 h4 EV
  have hlen : 3 < T.length := by
    have a0 := hT.more hT.pos (show ¬ (tk T 0).kind = 3 by omega)
    have a1 := hT.more a0 (show ¬ (tk T 1).kind = 3 by omega)
    exact hT.more a1 h4
  have HIX : Hid (∀ j, (∀ i, i < j → (fE nn) i (tk T (3 + i)) = 0) → 3 + j < T.length) := fun j ok => idx_lt hT (fE_go nn) hlen j ok
  have HPE : Hid (∀ j e, j < (nn * nn) → (∀ i, i < j → (fE nn) i (tk T (3 + i)) = 0) → (fE nn) j (tk T (3 + j)) = e → e ≠ 0 → PR T = .bad (tk T (3 + j)).at_ e) := fun j e hj ok he h0 => pr_err hPS hj ok he h0
  have HPT : Hid ((∀ i, i < (nn * nn) → (fE nn) i (tk T (3 + i)) = 0) → ¬ (tk T (3 + (nn * nn))).kind = 3 → PR T = .bad (tk T (3 + (nn * nn))).at_ 7) := fun ok hk => pr_tail hPS ok hk
  have HPG : Hid ((∀ i, i < (nn * nn) → (fE nn) i (tk T (3 + i)) = 0) → (tk T (3 + (nn * nn))).kind = 3 → PR T = PGfull T nn) := fun ok hk => pg_full h0 EW h1 hn h2 h3 h4 EV ok hk
  have HKI := Lib.hid hT
  have HCB : Hid (∀ j, j < (nn * nn) → j < 2000) := fun j hj => by have := nn_lt h3; omega
  have HW := Lib.hid (fun W => want_full nn h2 h3 W)
  clear hPS hT
  unfold nm3 at EW
  go_enter Try.func8, Try.ntmps8
  go_wp2_with fail
  refine (HS.out _).mono ?_
  rintro e w1 ⟨v, rfl, hO, hB⟩
  obtain ⟨g, cap, rfl, hg1, hg2⟩ := hO.form (by omega)
  have HR : Hid (RH s T w w.heap.size g cap w1) := rh_of hO hB
  clear HS hO hB hg1 hg2
  obtain ⟨q, hq⟩ : ∃ q, q = w.heap.size := ⟨_, rfl⟩
  rw [← hq] at HR
  have HQ := Lib.hid hq
  rw [← hq]
  clear hq
  have c00 := (HR.out.tr.at (p := 0) (by omega)).1
  have c01 := (HR.out.tr.at (p := 0) (by omega)).2.1
  rw [h0] at c00
  rw [EW] at c01
  have c10 := (HR.out.tr.at (p := 1) (by omega)).1
  have c12 := (HR.out.tr.at (p := 1) (by omega)).2.2.1
  rw [h1] at c10
  rw [hn] at c12
  have l0 : (0 : Int) < (T.length : Int) := by omega
  have l1 : (1 : Int) < (T.length : Int) := by omega
  have l2 : (2 : Int) < (T.length : Int) := by omega
  have d0 : ((nn : Int) == 0) = false := by simp; omega
  have d1 : ¬ 24 < (nn : Int) := by omega
  clear h0 EW h1 hn
  have HR2 : Hid (RH s T w q g cap (w1.alloc (.cells #[.int .i64 3, .int .i64 nn, .int .i64 0, .slice none 0 0, .slice none 0 0, .slice none 0 0] 26))) := HR.out.up (bl_al (Below.refl _ _) _)
  have HGI : Hid ((w1.alloc (.cells #[.int .i64 3, .int .i64 nn, .int .i64 0, .slice none 0 0, .slice none 0 0, .slice none 0 0] 26)).heap[w1.heap.size]? = some (.cells #[.int .i64 3, .int .i64 nn, .int .i64 0, .slice none 0 0, .slice none 0 0, .slice none 0 0] 26 (0, 0)) ∧ q + 1 < w1.heap.size) := ⟨heap_alloc_new w1 _, HR.out.lt⟩
  clear HR
  go_upto_region 27 with fail
  clear c00 c01 c10 c12 d0 d1
  generalize w1.alloc (.cells #[.int .i64 3, .int .i64 nn, .int .i64 0, .slice none 0 0, .slice none 0 0, .slice none 0 0] 26) = w2 at *
  generalize w1.heap.size = gi at *
  have c20 := (HR2.out.tr.at (p := 2) (by omega)).1
  have c21 := (HR2.out.tr.at (p := 2) (by omega)).2.1
  unfold wFull at EV
  rw [EV] at c21
  have d4 : ((tk T 2).kind == 3) = false := by simpa using h4
  generalize (tk T 2).kind = kd at *
  clear EV h4
  go_wp2_with fail
  clear c20 c21 d4
  refine (HW.out _).mono ?_
  rintro e w3 ⟨rfl, rfl⟩
  clear HW
  obtain ⟨B, hB⟩ : ∃ B, B = w2.heap.size := ⟨_, rfl⟩
  have K0 : Hid (RN (fE nn) s T w q g cap 3 w2 B 0 (.slice none 0 0) w2) := ⟨HR2.out, hB, by rw [hB]; exact Below.refl _ _, by rw [show enc (nmL T 3 0) = [] from rfl]; exact World.ownsRow_nil _ _ _ _, fun i hi => by omega, by rw [hB]; exact Nat.le_refl _⟩
  have HB := Lib.hid hB
  clear hB
  have hdec : decide ((24 : Int) < (nn : Int)) = false := by simp; omega
  go_wp2
  try rw [hdec]
  clear hdec
  go_loopw [13, 14, 15] (fun kv nv mv wr => ∃ (j : Nat) (vN : Value), j ≤ (nn * nn) ∧ kv = .int .i64 ((3 + j : Nat) : Int) ∧ nv = vN ∧ mv = .int .i64 ((((nn * nn) - j : Nat)) : Int) ∧ Hid (RN (fE nn) s T w q g cap 3 w2 B j vN wr)) (fun _ _ mv _ => (intOf mv).toNat)
  case atStart => exact ⟨0, _, by omega, rfl, rfl, rfl, K0⟩
  case round =>
    clear K0
    obtain ⟨j, vN, hj, rfl, hvN, rfl, HK⟩ := hrel
    have hvN2 := hvN.symm
    clear hvN
    subst hvN2
    have hlt := HIX.out j HK.out.ok
    obtain ⟨pk, hpk⟩ : ∃ pk, pk = 3 + j := ⟨_, rfl⟩
    rw [← hpk] at hlt ⊢
    have HPK := Lib.hid hpk
    have q1 : (pk : Int) < (T.length : Int) := by omega
    have q2 : (0 : Int) ≤ (pk : Int) := by omega
    obtain ⟨t, ht⟩ : ∃ t, t = tk T pk := ⟨_, rfl⟩
    obtain ⟨c0, c1, c2, c3⟩ := HK.out.rh.tr.at hlt
    rw [← ht] at c0 c1 c2 c3
    have HTK := Lib.hid ht
    have HKD : Hid (t.kind = 1 ∨ t.kind = 2 ∨ t.kind = 3) := by rw [ht]; exact (HKI.out.kinds pk).imp id (Or.imp And.left And.left)
    clear ht hlt
    by_cases hjl : j < (nn * nn)
    · clear hpk
      have gm : (0 : Int) < (((nn * nn) - j : Nat) : Int) := by omega
      obtain ⟨mj, hmj⟩ : ∃ mj, mj = (nn * nn) - j := ⟨_, rfl⟩
      rw [← hmj] at gm ⊢
      have hmj2 : (nn * nn) - (j + 1) = mj - 1 := by omega
      have hmj1 : 1 ≤ mj := by omega
      have hmj3 : mj ≤ (nn * nn) := by omega
      have hmj4 : (nn * nn) ≤ 2000 := by have := HCB.out ((nn * nn) - 1) (by omega); omega
      have HMJ := Lib.hid (And.intro hmj2 (And.intro hmj1 (Nat.le_trans hmj3 hmj4)))
      clear hmj hmj2 hmj1 hmj3 hmj4 hj
      go_upto_region 38 with fail
      clear c0 c1 c2 c3
      have HR3 : Hid (RH s T w q g cap (wr.alloc (.cells #[.int .i64 t.kind, .string t.text, .int .i64 t.num, .int .i64 t.at_] 51))) := HK.out.rh.up (bl_al (Below.refl _ _) _)
      have HT3 : Hid ((wr.alloc (.cells #[.int .i64 t.kind, .string t.text, .int .i64 t.num, .int .i64 t.at_] 51)).heap[wr.heap.size]? = some (.cells #[.int .i64 t.kind, .string t.text, .int .i64 t.num, .int .i64 t.at_] 51 (0, 0)) ∧ q ≠ wr.heap.size ∧ q + 1 ≠ wr.heap.size) := ⟨heap_alloc_new _ _, by have := HK.out.rh.lt; omega, by have := HK.out.rh.lt; omega⟩
      have HK3 := Lib.hid (HK.out.alloc (.cells #[.int .i64 t.kind, .string t.text, .int .i64 t.num, .int .i64 t.at_] 51))
      obtain ⟨tb, htb⟩ : ∃ tb, tb = wr.heap.size := ⟨_, rfl⟩
      rw [← htb] at HT3 ⊢
      clear htb HK
      generalize wr.alloc (.cells #[.int .i64 t.kind, .string t.text, .int .i64 t.num, .int .i64 t.at_] 51) = w3 at *
      obtain ⟨t0, t2, t3⟩ : w3.cell? ⟨tb, 0, none⟩ = some (.int .i64 t.kind) ∧ w3.cell? ⟨tb, 2, none⟩ = some (.int .i64 t.num) ∧ w3.cell? ⟨tb, 3, none⟩ = some (.int .i64 t.at_) := ⟨cell_of_row _ _ 0 _ _ _ HT3.out.1, cell_of_row _ _ 2 _ _ _ HT3.out.1, cell_of_row _ _ 3 _ _ _ HT3.out.1⟩
      by_cases k3 : t.kind = 3
      · rw [k3] at t0
        have HPR : Hid (PR T = .bad t.at_ 6) := by
          have := HPE.out j 6 hjl HK3.out.ok (by rw [← HPK.out, ← HTK.out]; exact fE3 k3) (by decide)
          rw [← HPK.out, ← HTK.out] at this
          exact this
        clear k3
        obtain ⟨av, hav⟩ : ∃ av, av = t.at_ := ⟨_, rfl⟩
        rw [← hav] at t3 HPR
        clear hav HK3 HIX HPE HPT HPG HKI HMJ HKD HPK HTK hjl
        have b1 := HR3.out.hq; have b2 := HR3.out.hz; have b3 := HT3.out.2.1; have b4 := HR3.out.bel
        have b0 : q ≠ q + 1 := by omega
        clear HR3 HT3
        have HZ := Lib.hid (ret_zero w3 q (q + 1) tb 3 av (by assumption) (by assumption) (by assumption) (by assumption) (by assumption) (by assumption))
        go_wp2
        refine wp_region_held_drew (S := ZS (q + 1) tb 3 av) (by kernel_rfl) HZ.out.1 (fun hHeld => ?_)
        obtain ⟨-, HY, ⟨z0, z1, z2, z3, z4, z5⟩, ⟨f0, f1, f2, f3, f4, f5⟩, R6, BZ⟩ := HZ.out
        have HYh := Lib.hid HY
        unfold z6 at R6
        have R6h := Lib.hid R6
        have BZh := Lib.hid BZ
        clear HZ HY R6 BZ
        generalize World.drew _ = W3 at *
        refine wpAnyH_take (i := 0) (v := ?va1) (by rw [List.getElem?_toArray]; rfl) (by kernel_rfl) (by kernel_rfl) (by kernel_rfl) ?qa1 (Or.inl ⟨by rfl, ?ya1⟩) hHeld ?ra1
        case qa1 => exact fun _ _ _ h => h
        case ya1 => (intro wz hSw; obtain ⟨⟨s0, s1, s2, s3, s4, s5⟩, s6⟩ := hSw; go_simp; try (with_reducible rfl))
        simp only [Act.put, List.setIfInBounds_toArray, List.set_cons_zero, List.set_cons_succ]
        refine wpAnyH_take (i := 1) (v := ?va2) (by rw [List.getElem?_toArray]; rfl) (by kernel_rfl) (by kernel_rfl) (by kernel_rfl) ?qa2 (Or.inl ⟨by rfl, ?ya2⟩) hHeld ?ra2
        case qa2 => exact fun _ _ _ h => h
        case ya2 => (intro wz hSw; obtain ⟨⟨s0, s1, s2, s3, s4, s5⟩, s6⟩ := hSw; go_simp; try (with_reducible rfl))
        simp only [Act.put, List.setIfInBounds_toArray, List.set_cons_zero, List.set_cons_succ]
        refine wpAnyH_take (i := 2) (v := ?va3) (by rw [List.getElem?_toArray]; rfl) (by kernel_rfl) (by kernel_rfl) (by kernel_rfl) ?qa3 (Or.inl ⟨by rfl, ?ya3⟩) hHeld ?ra3
        case qa3 => exact fun _ _ _ h => h
        case ya3 => (intro wz hSw; obtain ⟨⟨s0, s1, s2, s3, s4, s5⟩, s6⟩ := hSw; go_simp; try (with_reducible rfl))
        simp only [Act.put, List.setIfInBounds_toArray, List.set_cons_zero, List.set_cons_succ]
        refine wpAnyH_ready (rs := [3]) (by kernel_rfl) (by simp) ?_
        refine AllReadyH.cons (by rw [List.getElem?_toArray]; rfl) (fun K hK => ?_) AllReadyH.nil
        clear hHeld
        go_simp
        refine hK.out _ _ HYh.out (fun hHeld => ?_)
        clear hK K HYh
        refine wpAnyH_take (i := 4) (v := ?va4) (by rw [List.getElem?_toArray]; rfl) (by kernel_rfl) (by kernel_rfl) (by kernel_rfl) ?qa4 (Or.inl ⟨by rfl, ?ya4⟩) hHeld ?ra4
        case qa4 => exact fun _ _ _ h => h
        case ya4 => (intro wz hSw; clear hSw; go_simp; try (with_reducible rfl))
        simp only [Act.put, List.setIfInBounds_toArray, List.set_cons_zero, List.set_cons_succ]
        refine wpAnyH_take (i := 5) (v := ?va5) (by rw [List.getElem?_toArray]; rfl) (by kernel_rfl) (by kernel_rfl) (by kernel_rfl) ?qa5 (Or.inl ⟨by rfl, ?ya5⟩) hHeld ?ra5
        case qa5 => exact fun _ _ _ h => h
        case ya5 => (intro wz hSw; clear hSw; go_simp; try (with_reducible rfl))
        simp only [Act.put, List.setIfInBounds_toArray, List.set_cons_zero, List.set_cons_succ]
        refine wpAnyH_done (by kernel_rfl) ?_ _
        clear hHeld
        go_wp2
        obtain ⟨r0, r1, r2, r3, r4, r5⟩ := R6h.out
        exact bodyPost_ret (v := .tuple #[.agg #[.int .i64 0, .int .i64 0, .int .i64 0, .slice none 0 0, .slice none 0 0, .slice none 0 0], .int .i64 av, .int .i64 6]) (by simp [results, Try.results8, go_sem, r0, r1, r2, r3, r4, r5]) rfl (show PaR w (PR T) _ _ from by rw [HPR.out]; exact ⟨rfl, by rw [← HQ.out]; exact BZh.out⟩)
      · have d3 : (t.kind == 3) = false := by simpa using k3
        by_cases k1 : t.kind = 1
        · rw [k1] at t0
          clear d3
          have HPR : Hid (PR T = .bad t.at_ 4) := by
            have := HPE.out j 4 hjl HK3.out.ok (by rw [← HPK.out, ← HTK.out]; exact fE1 k1) (by decide)
            rw [← HPK.out, ← HTK.out] at this
            exact this
          clear k1 k3
          obtain ⟨av, hav⟩ : ∃ av, av = t.at_ := ⟨_, rfl⟩
          rw [← hav] at t3 HPR
          clear hav HK3 HIX HPE HPT HPG HKI HMJ HKD HPK HTK hjl
          have b1 := HR3.out.hq; have b2 := HR3.out.hz; have b3 := HT3.out.2.1; have b4 := HR3.out.bel
          have b0 : q ≠ q + 1 := by omega
          clear HR3 HT3
          have HZ := Lib.hid (ret_zero w3 q (q + 1) tb 3 av (by assumption) (by assumption) (by assumption) (by assumption) (by assumption) (by assumption))
          go_wp2
          refine wp_region_held_drew (S := ZS (q + 1) tb 3 av) (by kernel_rfl) HZ.out.1 (fun hHeld => ?_)
          obtain ⟨-, HY, ⟨z0, z1, z2, z3, z4, z5⟩, ⟨f0, f1, f2, f3, f4, f5⟩, R6, BZ⟩ := HZ.out
          have HYh := Lib.hid HY
          unfold z6 at R6
          have R6h := Lib.hid R6
          have BZh := Lib.hid BZ
          clear HZ HY R6 BZ
          generalize World.drew _ = W3 at *
          refine wpAnyH_take (i := 0) (v := ?va6) (by rw [List.getElem?_toArray]; rfl) (by kernel_rfl) (by kernel_rfl) (by kernel_rfl) ?qa6 (Or.inl ⟨by rfl, ?ya6⟩) hHeld ?ra6
          case qa6 => exact fun _ _ _ h => h
          case ya6 => (intro wz hSw; obtain ⟨⟨s0, s1, s2, s3, s4, s5⟩, s6⟩ := hSw; go_simp; try (with_reducible rfl))
          simp only [Act.put, List.setIfInBounds_toArray, List.set_cons_zero, List.set_cons_succ]
          refine wpAnyH_take (i := 1) (v := ?va7) (by rw [List.getElem?_toArray]; rfl) (by kernel_rfl) (by kernel_rfl) (by kernel_rfl) ?qa7 (Or.inl ⟨by rfl, ?ya7⟩) hHeld ?ra7
          case qa7 => exact fun _ _ _ h => h
          case ya7 => (intro wz hSw; obtain ⟨⟨s0, s1, s2, s3, s4, s5⟩, s6⟩ := hSw; go_simp; try (with_reducible rfl))
          simp only [Act.put, List.setIfInBounds_toArray, List.set_cons_zero, List.set_cons_succ]
          refine wpAnyH_take (i := 2) (v := ?va8) (by rw [List.getElem?_toArray]; rfl) (by kernel_rfl) (by kernel_rfl) (by kernel_rfl) ?qa8 (Or.inl ⟨by rfl, ?ya8⟩) hHeld ?ra8
          case qa8 => exact fun _ _ _ h => h
          case ya8 => (intro wz hSw; obtain ⟨⟨s0, s1, s2, s3, s4, s5⟩, s6⟩ := hSw; go_simp; try (with_reducible rfl))
          simp only [Act.put, List.setIfInBounds_toArray, List.set_cons_zero, List.set_cons_succ]
          refine wpAnyH_ready (rs := [3]) (by kernel_rfl) (by simp) ?_
          refine AllReadyH.cons (by rw [List.getElem?_toArray]; rfl) (fun K hK => ?_) AllReadyH.nil
          clear hHeld
          go_simp
          refine hK.out _ _ HYh.out (fun hHeld => ?_)
          clear hK K HYh
          refine wpAnyH_take (i := 4) (v := ?va9) (by rw [List.getElem?_toArray]; rfl) (by kernel_rfl) (by kernel_rfl) (by kernel_rfl) ?qa9 (Or.inl ⟨by rfl, ?ya9⟩) hHeld ?ra9
          case qa9 => exact fun _ _ _ h => h
          case ya9 => (intro wz hSw; clear hSw; go_simp; try (with_reducible rfl))
          simp only [Act.put, List.setIfInBounds_toArray, List.set_cons_zero, List.set_cons_succ]
          refine wpAnyH_take (i := 5) (v := ?va10) (by rw [List.getElem?_toArray]; rfl) (by kernel_rfl) (by kernel_rfl) (by kernel_rfl) ?qa10 (Or.inl ⟨by rfl, ?ya10⟩) hHeld ?ra10
          case qa10 => exact fun _ _ _ h => h
          case ya10 => (intro wz hSw; clear hSw; go_simp; try (with_reducible rfl))
          simp only [Act.put, List.setIfInBounds_toArray, List.set_cons_zero, List.set_cons_succ]
          refine wpAnyH_done (by kernel_rfl) ?_ _
          clear hHeld
          go_wp2
          obtain ⟨r0, r1, r2, r3, r4, r5⟩ := R6h.out
          exact bodyPost_ret (v := .tuple #[.agg #[.int .i64 0, .int .i64 0, .int .i64 0, .slice none 0 0, .slice none 0 0, .slice none 0 0], .int .i64 av, .int .i64 4]) (by simp [results, Try.results8, go_sem, r0, r1, r2, r3, r4, r5]) rfl (show PaR w (PR T) _ _ from by rw [HPR.out]; exact ⟨rfl, by rw [← HQ.out]; exact BZh.out⟩)
        · have k2 : t.kind = 2 := by rcases HKD.out with h | h | h <;> omega
          rw [k2] at t0
          clear d3
          by_cases k5 : 2147483647 < t.num
          · have HPR : Hid (PR T = .bad t.at_ 5) := by
              have := HPE.out j 5 hjl HK3.out.ok (by rw [← HPK.out, ← HTK.out]; exact fE5 k2 k5) (by decide)
              rw [← HPK.out, ← HTK.out] at this
              exact this
            clear k1 k2 k3
            have d5 := k5
            obtain ⟨nu, hnu⟩ : ∃ nu, nu = t.num := ⟨_, rfl⟩
            rw [← hnu] at t2 d5
            clear hnu k5
            obtain ⟨av, hav⟩ : ∃ av, av = t.at_ := ⟨_, rfl⟩
            rw [← hav] at t3 HPR
            clear hav HK3 HIX HPE HPT HPG HKI HMJ HKD HPK HTK hjl
            have b1 := HR3.out.hq; have b2 := HR3.out.hz; have b3 := HT3.out.2.1; have b4 := HR3.out.bel
            have b0 : q ≠ q + 1 := by omega
            clear HR3 HT3
            have HZ := Lib.hid (ret_zero w3 q (q + 1) tb 3 av (by assumption) (by assumption) (by assumption) (by assumption) (by assumption) (by assumption))
            go_wp2
            refine wp_region_held_drew (S := ZS (q + 1) tb 3 av) (by kernel_rfl) HZ.out.1 (fun hHeld => ?_)
            obtain ⟨-, HY, ⟨z0, z1, z2, z3, z4, z5⟩, ⟨f0, f1, f2, f3, f4, f5⟩, R6, BZ⟩ := HZ.out
            have HYh := Lib.hid HY
            unfold z6 at R6
            have R6h := Lib.hid R6
            have BZh := Lib.hid BZ
            clear HZ HY R6 BZ
            generalize World.drew _ = W3 at *
            refine wpAnyH_take (i := 0) (v := ?va11) (by rw [List.getElem?_toArray]; rfl) (by kernel_rfl) (by kernel_rfl) (by kernel_rfl) ?qa11 (Or.inl ⟨by rfl, ?ya11⟩) hHeld ?ra11
            case qa11 => exact fun _ _ _ h => h
            case ya11 => (intro wz hSw; obtain ⟨⟨s0, s1, s2, s3, s4, s5⟩, s6⟩ := hSw; go_simp; try (with_reducible rfl))
            simp only [Act.put, List.setIfInBounds_toArray, List.set_cons_zero, List.set_cons_succ]
            refine wpAnyH_take (i := 1) (v := ?va12) (by rw [List.getElem?_toArray]; rfl) (by kernel_rfl) (by kernel_rfl) (by kernel_rfl) ?qa12 (Or.inl ⟨by rfl, ?ya12⟩) hHeld ?ra12
            case qa12 => exact fun _ _ _ h => h
            case ya12 => (intro wz hSw; obtain ⟨⟨s0, s1, s2, s3, s4, s5⟩, s6⟩ := hSw; go_simp; try (with_reducible rfl))
            simp only [Act.put, List.setIfInBounds_toArray, List.set_cons_zero, List.set_cons_succ]
            refine wpAnyH_take (i := 2) (v := ?va13) (by rw [List.getElem?_toArray]; rfl) (by kernel_rfl) (by kernel_rfl) (by kernel_rfl) ?qa13 (Or.inl ⟨by rfl, ?ya13⟩) hHeld ?ra13
            case qa13 => exact fun _ _ _ h => h
            case ya13 => (intro wz hSw; obtain ⟨⟨s0, s1, s2, s3, s4, s5⟩, s6⟩ := hSw; go_simp; try (with_reducible rfl))
            simp only [Act.put, List.setIfInBounds_toArray, List.set_cons_zero, List.set_cons_succ]
            refine wpAnyH_ready (rs := [3]) (by kernel_rfl) (by simp) ?_
            refine AllReadyH.cons (by rw [List.getElem?_toArray]; rfl) (fun K hK => ?_) AllReadyH.nil
            clear hHeld
            go_simp
            refine hK.out _ _ HYh.out (fun hHeld => ?_)
            clear hK K HYh
            refine wpAnyH_take (i := 4) (v := ?va14) (by rw [List.getElem?_toArray]; rfl) (by kernel_rfl) (by kernel_rfl) (by kernel_rfl) ?qa14 (Or.inl ⟨by rfl, ?ya14⟩) hHeld ?ra14
            case qa14 => exact fun _ _ _ h => h
            case ya14 => (intro wz hSw; clear hSw; go_simp; try (with_reducible rfl))
            simp only [Act.put, List.setIfInBounds_toArray, List.set_cons_zero, List.set_cons_succ]
            refine wpAnyH_take (i := 5) (v := ?va15) (by rw [List.getElem?_toArray]; rfl) (by kernel_rfl) (by kernel_rfl) (by kernel_rfl) ?qa15 (Or.inl ⟨by rfl, ?ya15⟩) hHeld ?ra15
            case qa15 => exact fun _ _ _ h => h
            case ya15 => (intro wz hSw; clear hSw; go_simp; try (with_reducible rfl))
            simp only [Act.put, List.setIfInBounds_toArray, List.set_cons_zero, List.set_cons_succ]
            refine wpAnyH_done (by kernel_rfl) ?_ _
            clear hHeld
            go_wp2
            obtain ⟨r0, r1, r2, r3, r4, r5⟩ := R6h.out
            exact bodyPost_ret (v := .tuple #[.agg #[.int .i64 0, .int .i64 0, .int .i64 0, .slice none 0 0, .slice none 0 0, .slice none 0 0], .int .i64 av, .int .i64 5]) (by simp [results, Try.results8, go_sem, r0, r1, r2, r3, r4, r5]) rfl (show PaR w (PR T) _ _ from by rw [HPR.out]; exact ⟨rfl, by rw [← HQ.out]; exact BZh.out⟩)
          · have hcb : j < 2000 := HCB.out j hjl
            have d5 : ¬ 2147483647 < t.num := k5
            by_cases hz : j % (nn + 1) = 0
            · by_cases hn0 : t.num = 0
              · have E0 : fE nn j t = 0 := fE0b k2 k5 hn0
                have eR : (j : Int).tmod ((nn : Int) + 1) = ((j % (nn + 1) : Nat) : Int) := (Int.ofNat_tmod j (nn + 1)).symm
                obtain ⟨av0, cv0, rfl⟩ := own_slice HK3.out.row
                obtain ⟨jr, hjr⟩ : ∃ jr, jr = j % (nn + 1) := ⟨_, rfl⟩
                rw [← hjr] at eR
                have dz : ((jr : Int) == 0) = true := by rw [hjr, hz]; rfl
                have dn : (t.num != 0) = false := by simpa using hn0
                have HN := Lib.hid (nmL_succ T 3 j)
                rw [← HPK.out, ← HTK.out] at HN
                have HOK : Hid (∀ i, i < j + 1 → (fE nn) i (tk T (3 + i)) = 0) := fun i hi => by
                  by_cases e : i = j
                  · subst e; rw [← HPK.out, ← HTK.out]; exact E0
                  · exact HK3.out.ok i (by omega)
                clear E0
                obtain ⟨nu, hnu⟩ : ∃ nu, nu = t.num := ⟨_, rfl⟩
                rw [← hnu] at t2 HN
                rw [← hnu] at d5 dn
                clear k1 k2 k3 k5 HKD HTK hn0 hz hjr
                clear hnu
                have e1 : IntKind.i64.wrap ((pk : Int) + 1) = (pk : Int) + 1 := IntWalk.i64_in _ (by have := HKI.out.len; omega)
                have e2 : IntKind.i64.wrap ((mj : Int) - 1) = (mj : Int) - 1 := IntWalk.i64_in _ (by have := HMJ.out.2.2; omega)
                have hsz3 : B ≤ (w3.alloc (.cells #[.int .i64 nu] 3)).heap.size := by rw [World.size_alloc]; have := HK3.out.sz; omega
                go_wp2_with (at_builtin; refine wpList_append_own _ rfl _ _ 23 rfl B 3 i0 (.int .i64 0) 1 8 Try.underlying23 hi hz0 hz1 hz2 rfl (by decide) (.slice av0 j cv0) j _ rfl (HK3.out.row.alloc _) ⟨w3.heap.size, 0, none⟩ 1 1 [.int .i64 nu] rfl rfl (cell_one_new _ _ _) (by simp [Value.oneCell']) (by unfold maxLen; omega) (by omega) hsz3 ?_)
                intro v2 w4 hown hgrow _
                have HN4 : Hid (RN (fE nn) s T w q g cap 3 w2 B (j + 1) v2 w4) := HK3.out.app HN.out hown hgrow HOK.out
                clear hown hgrow hsz3 HK3 HN HOK HR3 HT3 t0 t2 t3
                go_wp2
                go_roundw
                case rel => exact ⟨j + 1, _, by omega, by rw [HPK.out]; go_num, rfl, by rw [HMJ.out.1]; have := HMJ.out.2.1; go_num, HN4⟩
                case measure => have := HMJ.out.2.1; simp [intOf]; omega
              · have eR : (j : Int).tmod ((nn : Int) + 1) = ((j % (nn + 1) : Nat) : Int) := (Int.ofNat_tmod j (nn + 1)).symm
                obtain ⟨av0, cv0, rfl⟩ := own_slice HK3.out.row
                obtain ⟨jr, hjr⟩ : ∃ jr, jr = j % (nn + 1) := ⟨_, rfl⟩
                rw [← hjr] at eR
                have dz : ((jr : Int) == 0) = true := by rw [hjr, hz]; rfl
                have dn : (t.num != 0) = true := by simpa using hn0
                have HPR : Hid (PR T = .bad t.at_ 8) := by
                  have := HPE.out j 8 hjl HK3.out.ok (by rw [← HPK.out, ← HTK.out]; exact fE8 k2 k5 hz hn0) (by decide)
                  rw [← HPK.out, ← HTK.out] at this
                  exact this
                clear k1 k2 k3 hn0 hz hjr
                obtain ⟨nu, hnu⟩ : ∃ nu, nu = t.num := ⟨_, rfl⟩
                rw [← hnu] at t2 d5 dn
                clear hnu k5
                obtain ⟨av, hav⟩ : ∃ av, av = t.at_ := ⟨_, rfl⟩
                rw [← hav] at t3 HPR
                clear hav HK3 HIX HPE HPT HPG HKI HMJ HKD HPK HTK hjl
                have b1 := HR3.out.hq; have b2 := HR3.out.hz; have b3 := HT3.out.2.1; have b4 := HR3.out.bel
                have b0 : q ≠ q + 1 := by omega
                clear HR3 HT3
                have HZ := Lib.hid (ret_zero w3 q (q + 1) tb 3 av (by assumption) (by assumption) (by assumption) (by assumption) (by assumption) (by assumption))
                go_wp2
                refine wp_region_held_drew (S := ZS (q + 1) tb 3 av) (by kernel_rfl) HZ.out.1 (fun hHeld => ?_)
                obtain ⟨-, HY, ⟨z0, z1, z2, z3, z4, z5⟩, ⟨f0, f1, f2, f3, f4, f5⟩, R6, BZ⟩ := HZ.out
                have HYh := Lib.hid HY
                unfold z6 at R6
                have R6h := Lib.hid R6
                have BZh := Lib.hid BZ
                clear HZ HY R6 BZ
                generalize World.drew _ = W3 at *
                refine wpAnyH_take (i := 0) (v := ?va16) (by rw [List.getElem?_toArray]; rfl) (by kernel_rfl) (by kernel_rfl) (by kernel_rfl) ?qa16 (Or.inl ⟨by rfl, ?ya16⟩) hHeld ?ra16
                case qa16 => exact fun _ _ _ h => h
                case ya16 => (intro wz hSw; obtain ⟨⟨s0, s1, s2, s3, s4, s5⟩, s6⟩ := hSw; go_simp; try (with_reducible rfl))
                simp only [Act.put, List.setIfInBounds_toArray, List.set_cons_zero, List.set_cons_succ]
                refine wpAnyH_take (i := 1) (v := ?va17) (by rw [List.getElem?_toArray]; rfl) (by kernel_rfl) (by kernel_rfl) (by kernel_rfl) ?qa17 (Or.inl ⟨by rfl, ?ya17⟩) hHeld ?ra17
                case qa17 => exact fun _ _ _ h => h
                case ya17 => (intro wz hSw; obtain ⟨⟨s0, s1, s2, s3, s4, s5⟩, s6⟩ := hSw; go_simp; try (with_reducible rfl))
                simp only [Act.put, List.setIfInBounds_toArray, List.set_cons_zero, List.set_cons_succ]
                refine wpAnyH_take (i := 2) (v := ?va18) (by rw [List.getElem?_toArray]; rfl) (by kernel_rfl) (by kernel_rfl) (by kernel_rfl) ?qa18 (Or.inl ⟨by rfl, ?ya18⟩) hHeld ?ra18
                case qa18 => exact fun _ _ _ h => h
                case ya18 => (intro wz hSw; obtain ⟨⟨s0, s1, s2, s3, s4, s5⟩, s6⟩ := hSw; go_simp; try (with_reducible rfl))
                simp only [Act.put, List.setIfInBounds_toArray, List.set_cons_zero, List.set_cons_succ]
                refine wpAnyH_ready (rs := [3]) (by kernel_rfl) (by simp) ?_
                refine AllReadyH.cons (by rw [List.getElem?_toArray]; rfl) (fun K hK => ?_) AllReadyH.nil
                clear hHeld
                go_simp
                refine hK.out _ _ HYh.out (fun hHeld => ?_)
                clear hK K HYh
                refine wpAnyH_take (i := 4) (v := ?va19) (by rw [List.getElem?_toArray]; rfl) (by kernel_rfl) (by kernel_rfl) (by kernel_rfl) ?qa19 (Or.inl ⟨by rfl, ?ya19⟩) hHeld ?ra19
                case qa19 => exact fun _ _ _ h => h
                case ya19 => (intro wz hSw; clear hSw; go_simp; try (with_reducible rfl))
                simp only [Act.put, List.setIfInBounds_toArray, List.set_cons_zero, List.set_cons_succ]
                refine wpAnyH_take (i := 5) (v := ?va20) (by rw [List.getElem?_toArray]; rfl) (by kernel_rfl) (by kernel_rfl) (by kernel_rfl) ?qa20 (Or.inl ⟨by rfl, ?ya20⟩) hHeld ?ra20
                case qa20 => exact fun _ _ _ h => h
                case ya20 => (intro wz hSw; clear hSw; go_simp; try (with_reducible rfl))
                simp only [Act.put, List.setIfInBounds_toArray, List.set_cons_zero, List.set_cons_succ]
                refine wpAnyH_done (by kernel_rfl) ?_ _
                clear hHeld
                go_wp2
                obtain ⟨r0, r1, r2, r3, r4, r5⟩ := R6h.out
                exact bodyPost_ret (v := .tuple #[.agg #[.int .i64 0, .int .i64 0, .int .i64 0, .slice none 0 0, .slice none 0 0, .slice none 0 0], .int .i64 av, .int .i64 8]) (by simp [results, Try.results8, go_sem, r0, r1, r2, r3, r4, r5]) rfl (show PaR w (PR T) _ _ from by rw [HPR.out]; exact ⟨rfl, by rw [← HQ.out]; exact BZh.out⟩)
            · have E0 : fE nn j t = 0 := fE0a k2 k5 hz
              have eR : (j : Int).tmod ((nn : Int) + 1) = ((j % (nn + 1) : Nat) : Int) := (Int.ofNat_tmod j (nn + 1)).symm
              obtain ⟨av0, cv0, rfl⟩ := own_slice HK3.out.row
              obtain ⟨jr, hjr⟩ : ∃ jr, jr = j % (nn + 1) := ⟨_, rfl⟩
              rw [← hjr] at eR
              have dz : ((jr : Int) == 0) = false := by simp; omega
              have HN := Lib.hid (nmL_succ T 3 j)
              rw [← HPK.out, ← HTK.out] at HN
              have HOK : Hid (∀ i, i < j + 1 → (fE nn) i (tk T (3 + i)) = 0) := fun i hi => by
                by_cases e : i = j
                · subst e; rw [← HPK.out, ← HTK.out]; exact E0
                · exact HK3.out.ok i (by omega)
              clear E0
              obtain ⟨nu, hnu⟩ : ∃ nu, nu = t.num := ⟨_, rfl⟩
              rw [← hnu] at t2 HN
              rw [← hnu] at d5
              clear k1 k2 k3 k5 HKD HTK hz hjr
              clear hnu
              have e1 : IntKind.i64.wrap ((pk : Int) + 1) = (pk : Int) + 1 := IntWalk.i64_in _ (by have := HKI.out.len; omega)
              have e2 : IntKind.i64.wrap ((mj : Int) - 1) = (mj : Int) - 1 := IntWalk.i64_in _ (by have := HMJ.out.2.2; omega)
              have hsz3 : B ≤ (w3.alloc (.cells #[.int .i64 nu] 3)).heap.size := by rw [World.size_alloc]; have := HK3.out.sz; omega
              go_wp2_with (at_builtin; refine wpList_append_own _ rfl _ _ 23 rfl B 3 i0 (.int .i64 0) 1 8 Try.underlying23 hi hz0 hz1 hz2 rfl (by decide) (.slice av0 j cv0) j _ rfl (HK3.out.row.alloc _) ⟨w3.heap.size, 0, none⟩ 1 1 [.int .i64 nu] rfl rfl (cell_one_new _ _ _) (by simp [Value.oneCell']) (by unfold maxLen; omega) (by omega) hsz3 ?_)
              intro v2 w4 hown hgrow _
              have HN4 : Hid (RN (fE nn) s T w q g cap 3 w2 B (j + 1) v2 w4) := HK3.out.app HN.out hown hgrow HOK.out
              clear hown hgrow hsz3 HK3 HN HOK HR3 HT3 t0 t2 t3
              go_wp2
              go_roundw
              case rel => exact ⟨j + 1, _, by omega, by rw [HPK.out]; go_num, rfl, by rw [HMJ.out.1]; have := HMJ.out.2.1; go_num, HN4⟩
              case measure => have := HMJ.out.2.1; simp [intOf]; omega
    · obtain rfl : j = (nn * nn) := by omega
      obtain ⟨cn, hcn⟩ : ∃ cn, cn = (nn * nn) := ⟨_, rfl⟩
      have HCN := Lib.hid hcn
      rw [Nat.sub_self, show ((0 : Nat) : Int) = 0 from rfl]
      rw [← hcn] at HK HPT HPG hpk
      clear hcn HPE HIX HKI HKD hj
      by_cases k3 : t.kind = 3
      · have HPR : Hid (PR T = PGfull T nn) := HPG.out HK.out.ok (by rw [← hpk, ← HTK.out]; exact k3)
        rw [k3] at c0
        clear HPG HPT k3 HTK hpk HPK c1 c2 c3
        obtain ⟨i23, hi23, hy0, hy1, hy2⟩ := info_parts info23
        obtain ⟨al, cl, rfl⟩ := own_slice HK.out.row
        obtain ⟨B2, hB2⟩ : ∃ B2, B2 = wr.heap.size := ⟨_, rfl⟩
        obtain ⟨wL, hwL⟩ : ∃ wL, wL = wr := ⟨_, rfl⟩
        have hgi : gi < w2.heap.size := lt_blk HGI.out.1
        have HNM : Hid (1 ≤ cn → ∃ gl, al = some ⟨gl, 0, none⟩ ∧ gl < B2 ∧ gl ≠ gi ∧ ∀ i, i < cn → wL.cell? ⟨gl, i, none⟩ = some (.int .i64 (tk T (3 + i)).num)) := fun h1 => by
          obtain ⟨gl, cl', e, hgl1, hgl2⟩ := HK.out.row.form (by omega)
          injection e with e1 e2 e3
          subst e1 e3
          have a1 := HK.out.hB
          refine ⟨gl, rfl, by omega, by omega, fun i hi => ?_⟩
          rw [hwL, HK.out.row.cellAt i (by omega)]; exact nmL_at T 3 cn i hi
        have hbox : wL.heap[gi]? = some (.cells #[.int .i64 3, .int .i64 nn, .int .i64 0, .slice none 0 0, .slice none 0 0, .slice none 0 0] 26 (0, 0)) := by
          rw [hwL]; exact (HK.out.bel.block gi (by rw [HK.out.hB]; exact hgi)).trans HGI.out.1
        have HL : Hid (q < B2 ∧ q + 1 < gi ∧ gi < B2) := by
          have a1 := HK.out.hB
          have a2 := HK.out.sz
          have a3 := HGI.out.2
          have a4 : q < w2.heap.size := by have := HR2.out.lt; omega
          refine ⟨by omega, a3, by omega⟩
        have HQL : Hid (wL.heap[q]? = some zo ∧ Below q w wL) := by rw [hwL]; exact ⟨HK.out.rh.hq, HK.out.rh.bel⟩
        have bk := (ip.box6 hbox).1
        rw [hwL] at bk
        have K1 : Hid (RT 3 nn gi B2 wL (MA T 3 nn) 0 (.slice none 0 0) (fun _ => 0) wr) := ⟨by rw [← hwL]; exact hbox, by rw [tl3_zero]; exact World.ownsRow_nil _ _ _ _, fun j hj => by omega, by rw [hwL]; exact Up.refl _ _ _, by rw [hB2]; exact Nat.le_refl _, HL.out.2.2⟩
        have HWL := Lib.hid hwL
        have HB2 := Lib.hid hB2
        clear HK hgi hbox HGI hwL hB2
        go_wp2
        clear bk c0
        go_loopw [19] (fun i wr => ∃ (a : Nat) (vC : Value) (gs : Nat → Nat), a ≤ nn ∧ i = .int .i64 a ∧ Hid (RT 3 nn gi B2 wL (MA T 3 nn) a vC gs wr)) (fun i _ => nn - (intOf i).toNat)
        case atStart => exact ⟨0, _, _, by omega, rfl, K1⟩
        case round =>
          clear K1
          obtain ⟨a, vC, gs, ha, rfl, HC⟩ := hrel
          by_cases hal : a < nn
          · have q1 : (a : Int) < (nn : Int) := by omega
            have q2 : (0 : Int) ≤ (a : Int) := by omega
            obtain ⟨w5, hrun, hr5, hg5⟩ := run_make_full (P := Try.prog) wr B2 23 3 i0 (.int .i64 0) 1 Try.underlying23 hi hz0 hz1 .i64 .i64 nn (by rw [hz2]; omega) (by unfold maxLen; omega) HC.out.sz
            have hr4 : w5.ownsRow B2 3 1 (.slice (some ⟨wr.heap.size, 0, none⟩) nn nn) nn (rwv (Mc (MA T 3 nn) 0) nn a) := by have := hr5; rw [Nat.mul_one] at this; rw [Mc_zero, toList_one]; exact this
            have HI0 := Lib.hid (HC.out.begin hr4 hg5)
            clear hr5 hr4 hg5 HC
            generalize wr = wo at *
            go_wp2
            generalize wo.heap.size = gr at *
            clear hrun
            go_loopw [21] (fun i wr2 => ∃ c : Nat, c ≤ nn ∧ i = .int .i64 c ∧ Hid (RTI 3 nn gi B2 wL (MA T 3 nn) a vC gs gr c wr2)) (fun i _ => nn - (intOf i).toNat)
            case atStart => exact ⟨0, by omega, rfl, HI0⟩
            case round =>
              clear HI0
              obtain ⟨c, hc, rfl, HI⟩ := hrel
              by_cases hcl : c < nn
              · have q3 : (c : Int) < (nn : Int) := by omega
                have q4 : (0 : Int) ≤ (c : Int) := by omega
                obtain ⟨ia, hia⟩ : ∃ ia, ia = a * nn := ⟨_, rfl⟩
                obtain ⟨ix, hix⟩ : ∃ ix, ix = ia + c := ⟨_, rfl⟩
                have hib : ix < cn ∧ cn ≤ 576 := by
                  rw [HCN.out, hix, hia]
                  have a1 : (a + 1) * nn ≤ nn * nn := Nat.mul_le_mul_right _ hal
                  rw [Nat.succ_mul] at a1
                  have a2 := nn_lt h3
                  omega
                have eM : ((a * nn : Nat) : Int) = (a : Int) * (nn : Int) := by push_cast; rfl
                have e1 : IntKind.i64.wrap ((a : Int) * (nn : Int)) = (ia : Int) := (IntWalk.i64_in _ (by omega)).trans (by rw [hia]; exact eM.symm)
                clear eM
                have e2 : IntKind.i64.wrap ((ia : Int) + (c : Int)) = (ix : Int) := (IntWalk.i64_in _ (by omega)).trans (by rw [hix]; push_cast; rfl)
                have q5 : (ix : Int) < (cn : Int) := by omega
                have q6 : (0 : Int) ≤ (ix : Int) := by omega
                obtain ⟨gl, rfl, hgl1, hgl2, hgl3⟩ := HNM.out (by omega)
                have cnu := (HI.out.t.far hgl1 hgl2 ix).trans (hgl3 ix hib.1)
                clear hgl1 hgl2 hgl3
                have hM : (tk T (3 + ix)).num = (MA T 3 nn) a c := by rw [hix, hia]; rfl
                rw [hM] at cnu
                have c5 := (HI.out.row.cellAt c (by omega)).trans (rwv_at _ _ _ _ hcl)
                have f5 := HI.out.row.frozenAt c
                have HN := Lib.hid (HI.out.store (x := (MA T 3 nn) a c) rfl)
                clear hib hM hix hia HI
                go_wp2
                go_roundw
                case rel => exact ⟨c + 1, by omega, by go_num, HN⟩
                case measure => simp [intOf]; omega
              · obtain rfl : c = nn := by omega
                have hbs : B2 ≤ (wr.alloc (.cells #[.slice (some ⟨gr, 0, none⟩) c c] 23)).heap.size := by rw [World.size_alloc]; have := HI.out.t.sz; omega
                have x1 := cell_of_row _ gi 5 _ 26 _ HI.out.t.box
                simp at x1
                go_wp2_with (at_builtin; refine wpList_append_lies _ rfl _ _ 24 rfl B2 23 i23 (.slice none 0 0) 1 24 Try.underlying24 hi23 hy0 hy1 hy2 rfl (by decide) vC a _ rfl (HI.out.t.top.alloc _) ⟨wr.heap.size, 0, none⟩ 1 1 [.slice (some ⟨gr, 0, none⟩) c c] rfl rfl (cell_one_new _ _ _) (by simp [Value.oneCell']) (by decide) (by unfold maxLen; omega) (by omega) hbs _ rfl ?_)
                intro g5 cap5 w6 hown5 hgrow5 hl5 hlt5
                obtain ⟨hp1, hp2, hp3⟩ := HI.out.put hown5 hgrow5
                have HN := Lib.hid hp1
                clear hown5 hgrow5 hl5 hlt5 HI hbs x1 hp1
                go_wp2
                go_roundw
                case rel => exact ⟨a + 1, _, _, by omega, by go_num, HN⟩
                case measure => simp [intOf]; omega
          · obtain rfl : a = nn := by omega
            obtain ⟨gt, ct, rfl, hgt1, hgt2⟩ := HC.out.top.form (by omega)
            have hq := (HC.out.up.block q HL.out.1 (by have := HL.out.2.1; omega)).trans HQL.out.1
            unfold zo at hq
            have HBQ : Hid (Below q w wr) := ⟨HC.out.up.os.trans HQL.out.2.os, HC.out.up.tape.trans HQL.out.2.tape, HC.out.up.output.trans HQL.out.2.output, Nat.le_trans HQL.out.2.size HC.out.up.size, fun k hk => by have := HL.out; exact (HC.out.up.block k (by omega) (by omega)).trans (HQL.out.2.block k hk)⟩
            obtain ⟨y0, y1, y2, y3, y4, y5⟩ := ip.box6 HC.out.box
            obtain ⟨z0, z1, z2, z3, z4, z5⟩ := ip.box6 hq
            have zf := ip.fr6 hq
            have f0 := zf 0; have f1 := zf 1; have f2 := zf 2; have f3 := zf 3; have f4 := zf 4; have f5 := zf 5
            have R6 := Lib.hid (ip.box6 (ip.six hq (.int .i64 3) (.int .i64 a) (.int .i64 0) (.slice none 0 0) (.slice none 0 0) (.slice (some ⟨gt, 0, none⟩) a ct)))
            have FN : Hid (PaR w (PR T) (.returned (.tuple #[.agg #[.int .i64 3, .int .i64 a, .int .i64 0, .slice none 0 0, .slice none 0 0, .slice (some ⟨gt, 0, none⟩) a ct], .int .i64 0, .int .i64 0])) ((((((wr.setCell ⟨q, 0, none⟩ (.int .i64 3)).setCell ⟨q, 1, none⟩ (.int .i64 a)).setCell ⟨q, 2, none⟩ (.int .i64 0)).setCell ⟨q, 3, none⟩ (.slice none 0 0)).setCell ⟨q, 4, none⟩ (.slice none 0 0)).setCell ⟨q, 5, none⟩ (.slice (some ⟨gt, 0, none⟩) a ct))) := tab_out HC.out HL.out.1 (by omega) HBQ.out HQ.out HPR.out _ _ _ _ _ _
            clear HC hq zf hgt1 hgt2 HBQ
            go_wp2
            obtain ⟨r0, r1, r2, r3, r4, r5⟩ := R6.out
            exact bodyPost_ret (v := .tuple #[.agg #[.int .i64 3, .int .i64 a, .int .i64 0, .slice none 0 0, .slice none 0 0, .slice (some ⟨gt, 0, none⟩) a ct], .int .i64 0, .int .i64 0]) (by simp [results, Try.results8, go_sem, r0, r1, r2, r3, r4, r5]) rfl FN.out
      · have HPR : Hid (PR T = .bad t.at_ 7) := by
          have := HPT.out HK.out.ok (by rw [← hpk, ← HTK.out]; exact k3)
          rw [← hpk, ← HTK.out] at this
          exact this
        have d3 : (t.kind != 3) = true := by simpa using k3
        obtain ⟨av, hav⟩ : ∃ av, av = t.at_ := ⟨_, rfl⟩
        rw [← hav] at c3 HPR
        have b1 := HK.out.rh.hq; have b2 := HK.out.rh.hz; have b3 := HK.out.rh.gq; have b4 := HK.out.rh.bel
        have b0 : q ≠ q + 1 := by omega
        have mp : pk < T.length := by omega
        generalize t.kind = kd at *
        clear HPG HPT k3 HTK hpk HPK c1 c2 HK hav
        have HZ := Lib.hid (ret_zero wr q (q + 1) g (pk * 4 + 3) av (by assumption) (by assumption) (by assumption) (by assumption) (by assumption) (by assumption))
        go_wp2
        refine wp_region_held_drew (S := ZS (q + 1) g (pk * 4 + 3) av) (by kernel_rfl) HZ.out.1 (fun hHeld => ?_)
        obtain ⟨-, HY, ⟨z0, z1, z2, z3, z4, z5⟩, ⟨f0, f1, f2, f3, f4, f5⟩, R6, BZ⟩ := HZ.out
        have HYh := Lib.hid HY
        unfold z6 at R6
        have R6h := Lib.hid R6
        have BZh := Lib.hid BZ
        clear HZ HY R6 BZ
        generalize World.drew _ = W3 at *
        refine wpAnyH_take (i := 0) (v := ?va21) (by rw [List.getElem?_toArray]; rfl) (by kernel_rfl) (by kernel_rfl) (by kernel_rfl) ?qa21 (Or.inl ⟨by rfl, ?ya21⟩) hHeld ?ra21
        case qa21 => exact fun _ _ _ h => h
        case ya21 => (intro wz hSw; obtain ⟨⟨s0, s1, s2, s3, s4, s5⟩, s6⟩ := hSw; go_simp; try (with_reducible rfl))
        simp only [Act.put, List.setIfInBounds_toArray, List.set_cons_zero, List.set_cons_succ]
        refine wpAnyH_take (i := 1) (v := ?va22) (by rw [List.getElem?_toArray]; rfl) (by kernel_rfl) (by kernel_rfl) (by kernel_rfl) ?qa22 (Or.inl ⟨by rfl, ?ya22⟩) hHeld ?ra22
        case qa22 => exact fun _ _ _ h => h
        case ya22 => (intro wz hSw; obtain ⟨⟨s0, s1, s2, s3, s4, s5⟩, s6⟩ := hSw; go_simp; try (with_reducible rfl))
        simp only [Act.put, List.setIfInBounds_toArray, List.set_cons_zero, List.set_cons_succ]
        refine wpAnyH_take (i := 2) (v := ?va23) (by rw [List.getElem?_toArray]; rfl) (by kernel_rfl) (by kernel_rfl) (by kernel_rfl) ?qa23 (Or.inl ⟨by rfl, ?ya23⟩) hHeld ?ra23
        case qa23 => exact fun _ _ _ h => h
        case ya23 => (intro wz hSw; obtain ⟨⟨s0, s1, s2, s3, s4, s5⟩, s6⟩ := hSw; go_simp; try (with_reducible rfl))
        simp only [Act.put, List.setIfInBounds_toArray, List.set_cons_zero, List.set_cons_succ]
        refine wpAnyH_take (i := 3) (v := ?va24) (by rw [List.getElem?_toArray]; rfl) (by kernel_rfl) (by kernel_rfl) (by kernel_rfl) ?qa24 (Or.inl ⟨by rfl, ?ya24⟩) hHeld ?ra24
        case qa24 => exact fun _ _ _ h => h
        case ya24 => (intro wz hSw; obtain ⟨⟨s0, s1, s2, s3, s4, s5⟩, s6⟩ := hSw; go_simp; try (with_reducible rfl))
        simp only [Act.put, List.setIfInBounds_toArray, List.set_cons_zero, List.set_cons_succ]
        refine wpAnyH_take (i := 4) (v := ?va25) (by rw [List.getElem?_toArray]; rfl) (by kernel_rfl) (by kernel_rfl) (by kernel_rfl) ?qa25 (Or.inl ⟨by rfl, ?ya25⟩) hHeld ?ra25
        case qa25 => exact fun _ _ _ h => h
        case ya25 => (intro wz hSw; obtain ⟨⟨s0, s1, s2, s3, s4, s5⟩, s6⟩ := hSw; go_simp; try (with_reducible rfl))
        simp only [Act.put, List.setIfInBounds_toArray, List.set_cons_zero, List.set_cons_succ]
        refine wpAnyH_take (i := 5) (v := ?va26) (by rw [List.getElem?_toArray]; rfl) (by kernel_rfl) (by kernel_rfl) (by kernel_rfl) ?qa26 (Or.inl ⟨by rfl, ?ya26⟩) hHeld ?ra26
        case qa26 => exact fun _ _ _ h => h
        case ya26 => (intro wz hSw; obtain ⟨⟨s0, s1, s2, s3, s4, s5⟩, s6⟩ := hSw; go_simp; try (with_reducible rfl))
        simp only [Act.put, List.setIfInBounds_toArray, List.set_cons_zero, List.set_cons_succ]
        refine wpAnyH_ready (rs := [6]) (by kernel_rfl) (by simp) ?_
        refine AllReadyH.cons (by rw [List.getElem?_toArray]; rfl) (fun K hK => ?_) AllReadyH.nil
        clear hHeld
        go_simp
        refine hK.out _ _ HYh.out (fun hHeld => ?_)
        clear hK K HYh
        refine wpAnyH_take (i := 7) (v := ?va27) (by rw [List.getElem?_toArray]; rfl) (by kernel_rfl) (by kernel_rfl) (by kernel_rfl) ?qa27 (Or.inl ⟨by rfl, ?ya27⟩) hHeld ?ra27
        case qa27 => exact fun _ _ _ h => h
        case ya27 => (intro wz hSw; clear hSw; go_simp; try (with_reducible rfl))
        simp only [Act.put, List.setIfInBounds_toArray, List.set_cons_zero, List.set_cons_succ]
        refine wpAnyH_take (i := 8) (v := ?va28) (by rw [List.getElem?_toArray]; rfl) (by kernel_rfl) (by kernel_rfl) (by kernel_rfl) ?qa28 (Or.inl ⟨by rfl, ?ya28⟩) hHeld ?ra28
        case qa28 => exact fun _ _ _ h => h
        case ya28 => (intro wz hSw; clear hSw; go_simp; try (with_reducible rfl))
        simp only [Act.put, List.setIfInBounds_toArray, List.set_cons_zero, List.set_cons_succ]
        refine wpAnyH_done (by kernel_rfl) ?_ _
        clear hHeld
        go_wp2
        obtain ⟨r0, r1, r2, r3, r4, r5⟩ := R6h.out
        exact bodyPost_ret (v := .tuple #[.agg #[.int .i64 0, .int .i64 0, .int .i64 0, .slice none 0 0, .slice none 0 0, .slice none 0 0], .int .i64 av, .int .i64 7]) (by simp [results, Try.results8, go_sem, r0, r1, r2, r3, r4, r5]) rfl (show PaR w (PR T) _ _ from by rw [HPR.out]; exact ⟨rfl, by rw [← HQ.out]; exact BZh.out⟩)
set_option maxRecDepth 100000 in
set_option maxHeartbeats 16000000 in
theorem rp_upp (s : ByteArray) (T : List Tok) (hT : Toks T) (nn : Nat) (w : World) (h0 : (tk T 0).kind = 1) (EW : (tk T 0).text = nm3) (h1 : (tk T 1).kind = 2) (hn : (tk T 1).num = nn) (h2 : 1 ≤ nn) (h3 : nn ≤ 24) (h4 : ¬ (tk T 2).kind = 3) (EV : (tk T 2).text = wUpper) (HS : Hid (∀ W, Calls Try.prog 17 #[.string s] W fun e w' => ∃ v, e = .returned (.tuple #[v, .int .i64 0, .int .i64 0]) ∧ w'.ownsRow W.heap.size 51 4 v T.length (encL T) ∧ Below W.heap.size W w')) :
    Calls Try.prog 8 #[.string s] w (PaR w (PR T)) := by
  obtain ⟨i0, hi, hz0, hz1, hz2⟩ := info_parts info3
  have hPS := ps_upper h0 EW h1 hn h2 h3 h4 EV
  have hlen : 3 < T.length := by
    have a0 := hT.more hT.pos (show ¬ (tk T 0).kind = 3 by omega)
    have a1 := hT.more a0 (show ¬ (tk T 1).kind = 3 by omega)
    exact hT.more a1 h4
  have HIX : Hid (∀ j, (∀ i, i < j → eK i (tk T (3 + i)) = 0) → 3 + j < T.length) := fun j ok => idx_lt hT eK_go hlen j ok
  have HPE : Hid (∀ j e, j < (rs nn nn) → (∀ i, i < j → eK i (tk T (3 + i)) = 0) → eK j (tk T (3 + j)) = e → e ≠ 0 → PR T = .bad (tk T (3 + j)).at_ e) := fun j e hj ok he h0 => pr_err hPS hj ok he h0
  have HPT : Hid ((∀ i, i < (rs nn nn) → eK i (tk T (3 + i)) = 0) → ¬ (tk T (3 + (rs nn nn))).kind = 3 → PR T = .bad (tk T (3 + (rs nn nn))).at_ 7) := fun ok hk => pr_tail hPS ok hk
  have HPG : Hid ((∀ i, i < (rs nn nn) → eK i (tk T (3 + i)) = 0) → (tk T (3 + (rs nn nn))).kind = 3 → PR T = PGupp T nn) := fun ok hk => pg_upp h0 EW h1 hn h2 h3 h4 EV ok hk
  have HKI := Lib.hid hT
  have HCB : Hid (∀ j, j < (rs nn nn) → j < 2000) := fun j hj => by have := rs_b ⟨nn, by omega⟩; simp only at this; omega
  have HW := Lib.hid (fun W => want_upp nn h2 h3 W)
  clear hPS hT
  unfold nm3 at EW
  go_enter Try.func8, Try.ntmps8
  go_wp2_with fail
  refine (HS.out _).mono ?_
  rintro e w1 ⟨v, rfl, hO, hB⟩
  obtain ⟨g, cap, rfl, hg1, hg2⟩ := hO.form (by omega)
  have HR : Hid (RH s T w w.heap.size g cap w1) := rh_of hO hB
  clear HS hO hB hg1 hg2
  obtain ⟨q, hq⟩ : ∃ q, q = w.heap.size := ⟨_, rfl⟩
  rw [← hq] at HR
  have HQ := Lib.hid hq
  rw [← hq]
  clear hq
  have c00 := (HR.out.tr.at (p := 0) (by omega)).1
  have c01 := (HR.out.tr.at (p := 0) (by omega)).2.1
  rw [h0] at c00
  rw [EW] at c01
  have c10 := (HR.out.tr.at (p := 1) (by omega)).1
  have c12 := (HR.out.tr.at (p := 1) (by omega)).2.2.1
  rw [h1] at c10
  rw [hn] at c12
  have l0 : (0 : Int) < (T.length : Int) := by omega
  have l1 : (1 : Int) < (T.length : Int) := by omega
  have l2 : (2 : Int) < (T.length : Int) := by omega
  have d0 : ((nn : Int) == 0) = false := by simp; omega
  have d1 : ¬ 24 < (nn : Int) := by omega
  clear h0 EW h1 hn
  have HR2 : Hid (RH s T w q g cap (w1.alloc (.cells #[.int .i64 3, .int .i64 nn, .int .i64 0, .slice none 0 0, .slice none 0 0, .slice none 0 0] 26))) := HR.out.up (bl_al (Below.refl _ _) _)
  have HGI : Hid ((w1.alloc (.cells #[.int .i64 3, .int .i64 nn, .int .i64 0, .slice none 0 0, .slice none 0 0, .slice none 0 0] 26)).heap[w1.heap.size]? = some (.cells #[.int .i64 3, .int .i64 nn, .int .i64 0, .slice none 0 0, .slice none 0 0, .slice none 0 0] 26 (0, 0)) ∧ q + 1 < w1.heap.size) := ⟨heap_alloc_new w1 _, HR.out.lt⟩
  clear HR
  go_upto_region 27 with fail
  clear c00 c01 c10 c12 d0 d1
  generalize w1.alloc (.cells #[.int .i64 3, .int .i64 nn, .int .i64 0, .slice none 0 0, .slice none 0 0, .slice none 0 0] 26) = w2 at *
  generalize w1.heap.size = gi at *
  have c20 := (HR2.out.tr.at (p := 2) (by omega)).1
  have c21 := (HR2.out.tr.at (p := 2) (by omega)).2.1
  unfold wUpper at EV
  rw [EV] at c21
  have d4 : ((tk T 2).kind == 3) = false := by simpa using h4
  generalize (tk T 2).kind = kd at *
  clear EV h4
  go_wp2_with fail
  clear c20 c21 d4
  refine (HW.out _).mono ?_
  rintro e w3 ⟨rfl, rfl⟩
  clear HW
  obtain ⟨B, hB⟩ : ∃ B, B = w2.heap.size := ⟨_, rfl⟩
  have K0 : Hid (RN eK s T w q g cap 3 w2 B 0 (.slice none 0 0) w2) := ⟨HR2.out, hB, by rw [hB]; exact Below.refl _ _, by rw [show enc (nmL T 3 0) = [] from rfl]; exact World.ownsRow_nil _ _ _ _, fun i hi => by omega, by rw [hB]; exact Nat.le_refl _⟩
  have HB := Lib.hid hB
  clear hB
  have hdec : decide ((24 : Int) < (nn : Int)) = false := by simp; omega
  go_wp2
  try rw [hdec]
  clear hdec
  go_loopw [13, 14, 15] (fun kv nv mv wr => ∃ (j : Nat) (vN : Value), j ≤ (rs nn nn) ∧ kv = .int .i64 ((3 + j : Nat) : Int) ∧ nv = vN ∧ mv = .int .i64 ((((rs nn nn) - j : Nat)) : Int) ∧ Hid (RN eK s T w q g cap 3 w2 B j vN wr)) (fun _ _ mv _ => (intOf mv).toNat)
  case atStart => exact ⟨0, _, by omega, rfl, rfl, rfl, K0⟩
  case round =>
    clear K0
    obtain ⟨j, vN, hj, rfl, hvN, rfl, HK⟩ := hrel
    have hvN2 := hvN.symm
    clear hvN
    subst hvN2
    have hlt := HIX.out j HK.out.ok
    obtain ⟨pk, hpk⟩ : ∃ pk, pk = 3 + j := ⟨_, rfl⟩
    rw [← hpk] at hlt ⊢
    have HPK := Lib.hid hpk
    have q1 : (pk : Int) < (T.length : Int) := by omega
    have q2 : (0 : Int) ≤ (pk : Int) := by omega
    obtain ⟨t, ht⟩ : ∃ t, t = tk T pk := ⟨_, rfl⟩
    obtain ⟨c0, c1, c2, c3⟩ := HK.out.rh.tr.at hlt
    rw [← ht] at c0 c1 c2 c3
    have HTK := Lib.hid ht
    have HKD : Hid (t.kind = 1 ∨ t.kind = 2 ∨ t.kind = 3) := by rw [ht]; exact (HKI.out.kinds pk).imp id (Or.imp And.left And.left)
    clear ht hlt
    by_cases hjl : j < (rs nn nn)
    · clear hpk
      have gm : (0 : Int) < (((rs nn nn) - j : Nat) : Int) := by omega
      obtain ⟨mj, hmj⟩ : ∃ mj, mj = (rs nn nn) - j := ⟨_, rfl⟩
      rw [← hmj] at gm ⊢
      have hmj2 : (rs nn nn) - (j + 1) = mj - 1 := by omega
      have hmj1 : 1 ≤ mj := by omega
      have hmj3 : mj ≤ (rs nn nn) := by omega
      have hmj4 : (rs nn nn) ≤ 2000 := by have := HCB.out ((rs nn nn) - 1) (by omega); omega
      have HMJ := Lib.hid (And.intro hmj2 (And.intro hmj1 (Nat.le_trans hmj3 hmj4)))
      clear hmj hmj2 hmj1 hmj3 hmj4 hj
      go_upto_region 38 with fail
      clear c0 c1 c2 c3
      have HR3 : Hid (RH s T w q g cap (wr.alloc (.cells #[.int .i64 t.kind, .string t.text, .int .i64 t.num, .int .i64 t.at_] 51))) := HK.out.rh.up (bl_al (Below.refl _ _) _)
      have HT3 : Hid ((wr.alloc (.cells #[.int .i64 t.kind, .string t.text, .int .i64 t.num, .int .i64 t.at_] 51)).heap[wr.heap.size]? = some (.cells #[.int .i64 t.kind, .string t.text, .int .i64 t.num, .int .i64 t.at_] 51 (0, 0)) ∧ q ≠ wr.heap.size ∧ q + 1 ≠ wr.heap.size) := ⟨heap_alloc_new _ _, by have := HK.out.rh.lt; omega, by have := HK.out.rh.lt; omega⟩
      have HK3 := Lib.hid (HK.out.alloc (.cells #[.int .i64 t.kind, .string t.text, .int .i64 t.num, .int .i64 t.at_] 51))
      obtain ⟨tb, htb⟩ : ∃ tb, tb = wr.heap.size := ⟨_, rfl⟩
      rw [← htb] at HT3 ⊢
      clear htb HK
      generalize wr.alloc (.cells #[.int .i64 t.kind, .string t.text, .int .i64 t.num, .int .i64 t.at_] 51) = w3 at *
      obtain ⟨t0, t2, t3⟩ : w3.cell? ⟨tb, 0, none⟩ = some (.int .i64 t.kind) ∧ w3.cell? ⟨tb, 2, none⟩ = some (.int .i64 t.num) ∧ w3.cell? ⟨tb, 3, none⟩ = some (.int .i64 t.at_) := ⟨cell_of_row _ _ 0 _ _ _ HT3.out.1, cell_of_row _ _ 2 _ _ _ HT3.out.1, cell_of_row _ _ 3 _ _ _ HT3.out.1⟩
      by_cases k3 : t.kind = 3
      · rw [k3] at t0
        have HPR : Hid (PR T = .bad t.at_ 6) := by
          have := HPE.out j 6 hjl HK3.out.ok (by rw [← HPK.out, ← HTK.out]; exact eE3 k3) (by decide)
          rw [← HPK.out, ← HTK.out] at this
          exact this
        clear k3
        obtain ⟨av, hav⟩ : ∃ av, av = t.at_ := ⟨_, rfl⟩
        rw [← hav] at t3 HPR
        clear hav HK3 HIX HPE HPT HPG HKI HMJ HKD HPK HTK hjl
        have b1 := HR3.out.hq; have b2 := HR3.out.hz; have b3 := HT3.out.2.1; have b4 := HR3.out.bel
        have b0 : q ≠ q + 1 := by omega
        clear HR3 HT3
        have HZ := Lib.hid (ret_zero w3 q (q + 1) tb 3 av (by assumption) (by assumption) (by assumption) (by assumption) (by assumption) (by assumption))
        go_wp2
        refine wp_region_held_drew (S := ZS (q + 1) tb 3 av) (by kernel_rfl) HZ.out.1 (fun hHeld => ?_)
        obtain ⟨-, HY, ⟨z0, z1, z2, z3, z4, z5⟩, ⟨f0, f1, f2, f3, f4, f5⟩, R6, BZ⟩ := HZ.out
        have HYh := Lib.hid HY
        unfold z6 at R6
        have R6h := Lib.hid R6
        have BZh := Lib.hid BZ
        clear HZ HY R6 BZ
        generalize World.drew _ = W3 at *
        refine wpAnyH_take (i := 0) (v := ?va1) (by rw [List.getElem?_toArray]; rfl) (by kernel_rfl) (by kernel_rfl) (by kernel_rfl) ?qa1 (Or.inl ⟨by rfl, ?ya1⟩) hHeld ?ra1
        case qa1 => exact fun _ _ _ h => h
        case ya1 => (intro wz hSw; obtain ⟨⟨s0, s1, s2, s3, s4, s5⟩, s6⟩ := hSw; go_simp; try (with_reducible rfl))
        simp only [Act.put, List.setIfInBounds_toArray, List.set_cons_zero, List.set_cons_succ]
        refine wpAnyH_take (i := 1) (v := ?va2) (by rw [List.getElem?_toArray]; rfl) (by kernel_rfl) (by kernel_rfl) (by kernel_rfl) ?qa2 (Or.inl ⟨by rfl, ?ya2⟩) hHeld ?ra2
        case qa2 => exact fun _ _ _ h => h
        case ya2 => (intro wz hSw; obtain ⟨⟨s0, s1, s2, s3, s4, s5⟩, s6⟩ := hSw; go_simp; try (with_reducible rfl))
        simp only [Act.put, List.setIfInBounds_toArray, List.set_cons_zero, List.set_cons_succ]
        refine wpAnyH_take (i := 2) (v := ?va3) (by rw [List.getElem?_toArray]; rfl) (by kernel_rfl) (by kernel_rfl) (by kernel_rfl) ?qa3 (Or.inl ⟨by rfl, ?ya3⟩) hHeld ?ra3
        case qa3 => exact fun _ _ _ h => h
        case ya3 => (intro wz hSw; obtain ⟨⟨s0, s1, s2, s3, s4, s5⟩, s6⟩ := hSw; go_simp; try (with_reducible rfl))
        simp only [Act.put, List.setIfInBounds_toArray, List.set_cons_zero, List.set_cons_succ]
        refine wpAnyH_ready (rs := [3]) (by kernel_rfl) (by simp) ?_
        refine AllReadyH.cons (by rw [List.getElem?_toArray]; rfl) (fun K hK => ?_) AllReadyH.nil
        clear hHeld
        go_simp
        refine hK.out _ _ HYh.out (fun hHeld => ?_)
        clear hK K HYh
        refine wpAnyH_take (i := 4) (v := ?va4) (by rw [List.getElem?_toArray]; rfl) (by kernel_rfl) (by kernel_rfl) (by kernel_rfl) ?qa4 (Or.inl ⟨by rfl, ?ya4⟩) hHeld ?ra4
        case qa4 => exact fun _ _ _ h => h
        case ya4 => (intro wz hSw; clear hSw; go_simp; try (with_reducible rfl))
        simp only [Act.put, List.setIfInBounds_toArray, List.set_cons_zero, List.set_cons_succ]
        refine wpAnyH_take (i := 5) (v := ?va5) (by rw [List.getElem?_toArray]; rfl) (by kernel_rfl) (by kernel_rfl) (by kernel_rfl) ?qa5 (Or.inl ⟨by rfl, ?ya5⟩) hHeld ?ra5
        case qa5 => exact fun _ _ _ h => h
        case ya5 => (intro wz hSw; clear hSw; go_simp; try (with_reducible rfl))
        simp only [Act.put, List.setIfInBounds_toArray, List.set_cons_zero, List.set_cons_succ]
        refine wpAnyH_done (by kernel_rfl) ?_ _
        clear hHeld
        go_wp2
        obtain ⟨r0, r1, r2, r3, r4, r5⟩ := R6h.out
        exact bodyPost_ret (v := .tuple #[.agg #[.int .i64 0, .int .i64 0, .int .i64 0, .slice none 0 0, .slice none 0 0, .slice none 0 0], .int .i64 av, .int .i64 6]) (by simp [results, Try.results8, go_sem, r0, r1, r2, r3, r4, r5]) rfl (show PaR w (PR T) _ _ from by rw [HPR.out]; exact ⟨rfl, by rw [← HQ.out]; exact BZh.out⟩)
      · have d3 : (t.kind == 3) = false := by simpa using k3
        by_cases k1 : t.kind = 1
        · rw [k1] at t0
          clear d3
          have HPR : Hid (PR T = .bad t.at_ 4) := by
            have := HPE.out j 4 hjl HK3.out.ok (by rw [← HPK.out, ← HTK.out]; exact eE1 k1) (by decide)
            rw [← HPK.out, ← HTK.out] at this
            exact this
          clear k1 k3
          obtain ⟨av, hav⟩ : ∃ av, av = t.at_ := ⟨_, rfl⟩
          rw [← hav] at t3 HPR
          clear hav HK3 HIX HPE HPT HPG HKI HMJ HKD HPK HTK hjl
          have b1 := HR3.out.hq; have b2 := HR3.out.hz; have b3 := HT3.out.2.1; have b4 := HR3.out.bel
          have b0 : q ≠ q + 1 := by omega
          clear HR3 HT3
          have HZ := Lib.hid (ret_zero w3 q (q + 1) tb 3 av (by assumption) (by assumption) (by assumption) (by assumption) (by assumption) (by assumption))
          go_wp2
          refine wp_region_held_drew (S := ZS (q + 1) tb 3 av) (by kernel_rfl) HZ.out.1 (fun hHeld => ?_)
          obtain ⟨-, HY, ⟨z0, z1, z2, z3, z4, z5⟩, ⟨f0, f1, f2, f3, f4, f5⟩, R6, BZ⟩ := HZ.out
          have HYh := Lib.hid HY
          unfold z6 at R6
          have R6h := Lib.hid R6
          have BZh := Lib.hid BZ
          clear HZ HY R6 BZ
          generalize World.drew _ = W3 at *
          refine wpAnyH_take (i := 0) (v := ?va6) (by rw [List.getElem?_toArray]; rfl) (by kernel_rfl) (by kernel_rfl) (by kernel_rfl) ?qa6 (Or.inl ⟨by rfl, ?ya6⟩) hHeld ?ra6
          case qa6 => exact fun _ _ _ h => h
          case ya6 => (intro wz hSw; obtain ⟨⟨s0, s1, s2, s3, s4, s5⟩, s6⟩ := hSw; go_simp; try (with_reducible rfl))
          simp only [Act.put, List.setIfInBounds_toArray, List.set_cons_zero, List.set_cons_succ]
          refine wpAnyH_take (i := 1) (v := ?va7) (by rw [List.getElem?_toArray]; rfl) (by kernel_rfl) (by kernel_rfl) (by kernel_rfl) ?qa7 (Or.inl ⟨by rfl, ?ya7⟩) hHeld ?ra7
          case qa7 => exact fun _ _ _ h => h
          case ya7 => (intro wz hSw; obtain ⟨⟨s0, s1, s2, s3, s4, s5⟩, s6⟩ := hSw; go_simp; try (with_reducible rfl))
          simp only [Act.put, List.setIfInBounds_toArray, List.set_cons_zero, List.set_cons_succ]
          refine wpAnyH_take (i := 2) (v := ?va8) (by rw [List.getElem?_toArray]; rfl) (by kernel_rfl) (by kernel_rfl) (by kernel_rfl) ?qa8 (Or.inl ⟨by rfl, ?ya8⟩) hHeld ?ra8
          case qa8 => exact fun _ _ _ h => h
          case ya8 => (intro wz hSw; obtain ⟨⟨s0, s1, s2, s3, s4, s5⟩, s6⟩ := hSw; go_simp; try (with_reducible rfl))
          simp only [Act.put, List.setIfInBounds_toArray, List.set_cons_zero, List.set_cons_succ]
          refine wpAnyH_ready (rs := [3]) (by kernel_rfl) (by simp) ?_
          refine AllReadyH.cons (by rw [List.getElem?_toArray]; rfl) (fun K hK => ?_) AllReadyH.nil
          clear hHeld
          go_simp
          refine hK.out _ _ HYh.out (fun hHeld => ?_)
          clear hK K HYh
          refine wpAnyH_take (i := 4) (v := ?va9) (by rw [List.getElem?_toArray]; rfl) (by kernel_rfl) (by kernel_rfl) (by kernel_rfl) ?qa9 (Or.inl ⟨by rfl, ?ya9⟩) hHeld ?ra9
          case qa9 => exact fun _ _ _ h => h
          case ya9 => (intro wz hSw; clear hSw; go_simp; try (with_reducible rfl))
          simp only [Act.put, List.setIfInBounds_toArray, List.set_cons_zero, List.set_cons_succ]
          refine wpAnyH_take (i := 5) (v := ?va10) (by rw [List.getElem?_toArray]; rfl) (by kernel_rfl) (by kernel_rfl) (by kernel_rfl) ?qa10 (Or.inl ⟨by rfl, ?ya10⟩) hHeld ?ra10
          case qa10 => exact fun _ _ _ h => h
          case ya10 => (intro wz hSw; clear hSw; go_simp; try (with_reducible rfl))
          simp only [Act.put, List.setIfInBounds_toArray, List.set_cons_zero, List.set_cons_succ]
          refine wpAnyH_done (by kernel_rfl) ?_ _
          clear hHeld
          go_wp2
          obtain ⟨r0, r1, r2, r3, r4, r5⟩ := R6h.out
          exact bodyPost_ret (v := .tuple #[.agg #[.int .i64 0, .int .i64 0, .int .i64 0, .slice none 0 0, .slice none 0 0, .slice none 0 0], .int .i64 av, .int .i64 4]) (by simp [results, Try.results8, go_sem, r0, r1, r2, r3, r4, r5]) rfl (show PaR w (PR T) _ _ from by rw [HPR.out]; exact ⟨rfl, by rw [← HQ.out]; exact BZh.out⟩)
        · have k2 : t.kind = 2 := by rcases HKD.out with h | h | h <;> omega
          rw [k2] at t0
          clear d3
          by_cases k5 : 2147483647 < t.num
          · have HPR : Hid (PR T = .bad t.at_ 5) := by
              have := HPE.out j 5 hjl HK3.out.ok (by rw [← HPK.out, ← HTK.out]; exact eE5 k2 k5) (by decide)
              rw [← HPK.out, ← HTK.out] at this
              exact this
            clear k1 k2 k3
            have d5 := k5
            obtain ⟨nu, hnu⟩ : ∃ nu, nu = t.num := ⟨_, rfl⟩
            rw [← hnu] at t2 d5
            clear hnu k5
            obtain ⟨av, hav⟩ : ∃ av, av = t.at_ := ⟨_, rfl⟩
            rw [← hav] at t3 HPR
            clear hav HK3 HIX HPE HPT HPG HKI HMJ HKD HPK HTK hjl
            have b1 := HR3.out.hq; have b2 := HR3.out.hz; have b3 := HT3.out.2.1; have b4 := HR3.out.bel
            have b0 : q ≠ q + 1 := by omega
            clear HR3 HT3
            have HZ := Lib.hid (ret_zero w3 q (q + 1) tb 3 av (by assumption) (by assumption) (by assumption) (by assumption) (by assumption) (by assumption))
            go_wp2
            refine wp_region_held_drew (S := ZS (q + 1) tb 3 av) (by kernel_rfl) HZ.out.1 (fun hHeld => ?_)
            obtain ⟨-, HY, ⟨z0, z1, z2, z3, z4, z5⟩, ⟨f0, f1, f2, f3, f4, f5⟩, R6, BZ⟩ := HZ.out
            have HYh := Lib.hid HY
            unfold z6 at R6
            have R6h := Lib.hid R6
            have BZh := Lib.hid BZ
            clear HZ HY R6 BZ
            generalize World.drew _ = W3 at *
            refine wpAnyH_take (i := 0) (v := ?va11) (by rw [List.getElem?_toArray]; rfl) (by kernel_rfl) (by kernel_rfl) (by kernel_rfl) ?qa11 (Or.inl ⟨by rfl, ?ya11⟩) hHeld ?ra11
            case qa11 => exact fun _ _ _ h => h
            case ya11 => (intro wz hSw; obtain ⟨⟨s0, s1, s2, s3, s4, s5⟩, s6⟩ := hSw; go_simp; try (with_reducible rfl))
            simp only [Act.put, List.setIfInBounds_toArray, List.set_cons_zero, List.set_cons_succ]
            refine wpAnyH_take (i := 1) (v := ?va12) (by rw [List.getElem?_toArray]; rfl) (by kernel_rfl) (by kernel_rfl) (by kernel_rfl) ?qa12 (Or.inl ⟨by rfl, ?ya12⟩) hHeld ?ra12
            case qa12 => exact fun _ _ _ h => h
            case ya12 => (intro wz hSw; obtain ⟨⟨s0, s1, s2, s3, s4, s5⟩, s6⟩ := hSw; go_simp; try (with_reducible rfl))
            simp only [Act.put, List.setIfInBounds_toArray, List.set_cons_zero, List.set_cons_succ]
            refine wpAnyH_take (i := 2) (v := ?va13) (by rw [List.getElem?_toArray]; rfl) (by kernel_rfl) (by kernel_rfl) (by kernel_rfl) ?qa13 (Or.inl ⟨by rfl, ?ya13⟩) hHeld ?ra13
            case qa13 => exact fun _ _ _ h => h
            case ya13 => (intro wz hSw; obtain ⟨⟨s0, s1, s2, s3, s4, s5⟩, s6⟩ := hSw; go_simp; try (with_reducible rfl))
            simp only [Act.put, List.setIfInBounds_toArray, List.set_cons_zero, List.set_cons_succ]
            refine wpAnyH_ready (rs := [3]) (by kernel_rfl) (by simp) ?_
            refine AllReadyH.cons (by rw [List.getElem?_toArray]; rfl) (fun K hK => ?_) AllReadyH.nil
            clear hHeld
            go_simp
            refine hK.out _ _ HYh.out (fun hHeld => ?_)
            clear hK K HYh
            refine wpAnyH_take (i := 4) (v := ?va14) (by rw [List.getElem?_toArray]; rfl) (by kernel_rfl) (by kernel_rfl) (by kernel_rfl) ?qa14 (Or.inl ⟨by rfl, ?ya14⟩) hHeld ?ra14
            case qa14 => exact fun _ _ _ h => h
            case ya14 => (intro wz hSw; clear hSw; go_simp; try (with_reducible rfl))
            simp only [Act.put, List.setIfInBounds_toArray, List.set_cons_zero, List.set_cons_succ]
            refine wpAnyH_take (i := 5) (v := ?va15) (by rw [List.getElem?_toArray]; rfl) (by kernel_rfl) (by kernel_rfl) (by kernel_rfl) ?qa15 (Or.inl ⟨by rfl, ?ya15⟩) hHeld ?ra15
            case qa15 => exact fun _ _ _ h => h
            case ya15 => (intro wz hSw; clear hSw; go_simp; try (with_reducible rfl))
            simp only [Act.put, List.setIfInBounds_toArray, List.set_cons_zero, List.set_cons_succ]
            refine wpAnyH_done (by kernel_rfl) ?_ _
            clear hHeld
            go_wp2
            obtain ⟨r0, r1, r2, r3, r4, r5⟩ := R6h.out
            exact bodyPost_ret (v := .tuple #[.agg #[.int .i64 0, .int .i64 0, .int .i64 0, .slice none 0 0, .slice none 0 0, .slice none 0 0], .int .i64 av, .int .i64 5]) (by simp [results, Try.results8, go_sem, r0, r1, r2, r3, r4, r5]) rfl (show PaR w (PR T) _ _ from by rw [HPR.out]; exact ⟨rfl, by rw [← HQ.out]; exact BZh.out⟩)
          · have E0 : eK j t = 0 := eE0 k2 k5
            have d5 : ¬ 2147483647 < t.num := k5
            have hcb : j < 2000 := HCB.out j hjl
            have HN := Lib.hid (nmL_succ T 3 j)
            rw [← HPK.out, ← HTK.out] at HN
            have HOK : Hid (∀ i, i < j + 1 → eK i (tk T (3 + i)) = 0) := fun i hi => by
              by_cases e : i = j
              · subst e; rw [← HPK.out, ← HTK.out]; exact E0
              · exact HK3.out.ok i (by omega)
            clear E0
            obtain ⟨nu, hnu⟩ : ∃ nu, nu = t.num := ⟨_, rfl⟩
            rw [← hnu] at t2 HN
            rw [← hnu] at d5
            clear k1 k2 k3 k5 HKD HTK
            clear hnu
            have e1 : IntKind.i64.wrap ((pk : Int) + 1) = (pk : Int) + 1 := IntWalk.i64_in _ (by have := HKI.out.len; omega)
            have e2 : IntKind.i64.wrap ((mj : Int) - 1) = (mj : Int) - 1 := IntWalk.i64_in _ (by have := HMJ.out.2.2; omega)
            have hsz3 : B ≤ (w3.alloc (.cells #[.int .i64 nu] 3)).heap.size := by rw [World.size_alloc]; have := HK3.out.sz; omega
            go_wp2_with (at_builtin; refine wpList_append_own _ rfl _ _ 23 rfl B 3 i0 (.int .i64 0) 1 8 Try.underlying23 hi hz0 hz1 hz2 rfl (by decide) vN j _ rfl (HK3.out.row.alloc _) ⟨w3.heap.size, 0, none⟩ 1 1 [.int .i64 nu] rfl rfl (cell_one_new _ _ _) (by simp [Value.oneCell']) (by unfold maxLen; omega) (by omega) hsz3 ?_)
            intro v2 w4 hown hgrow _
            have HN4 : Hid (RN eK s T w q g cap 3 w2 B (j + 1) v2 w4) := HK3.out.app HN.out hown hgrow HOK.out
            clear hown hgrow hsz3 HK3 HN HOK HR3 HT3 t0 t2 t3
            go_wp2
            go_roundw
            case rel => exact ⟨j + 1, _, by omega, by rw [HPK.out]; go_num, rfl, by rw [HMJ.out.1]; have := HMJ.out.2.1; go_num, HN4⟩
            case measure => have := HMJ.out.2.1; simp [intOf]; omega
    · obtain rfl : j = (rs nn nn) := by omega
      obtain ⟨cn, hcn⟩ : ∃ cn, cn = (rs nn nn) := ⟨_, rfl⟩
      have HCN := Lib.hid hcn
      rw [Nat.sub_self, show ((0 : Nat) : Int) = 0 from rfl]
      rw [← hcn] at HK HPT HPG hpk
      clear hcn HPE HIX HKI HKD hj
      by_cases k3 : t.kind = 3
      · have HPR : Hid (PR T = PGupp T nn) := HPG.out HK.out.ok (by rw [← hpk, ← HTK.out]; exact k3)
        rw [k3] at c0
        clear HPG HPT k3 HTK hpk HPK c1 c2 c3
        obtain ⟨i23, hi23, hy0, hy1, hy2⟩ := info_parts info23
        obtain ⟨al, cl, rfl⟩ := own_slice HK.out.row
        obtain ⟨B2, hB2⟩ : ∃ B2, B2 = wr.heap.size := ⟨_, rfl⟩
        obtain ⟨wL, hwL⟩ : ∃ wL, wL = wr := ⟨_, rfl⟩
        have hgi : gi < w2.heap.size := lt_blk HGI.out.1
        have HNM : Hid (1 ≤ cn → ∃ gl, al = some ⟨gl, 0, none⟩ ∧ gl < B2 ∧ gl ≠ gi ∧ ∀ i, i < cn → wL.cell? ⟨gl, i, none⟩ = some (.int .i64 (tk T (3 + i)).num)) := fun h1 => by
          obtain ⟨gl, cl', e, hgl1, hgl2⟩ := HK.out.row.form (by omega)
          injection e with e1 e2 e3
          subst e1 e3
          have a1 := HK.out.hB
          refine ⟨gl, rfl, by omega, by omega, fun i hi => ?_⟩
          rw [hwL, HK.out.row.cellAt i (by omega)]; exact nmL_at T 3 cn i hi
        have hbox : wL.heap[gi]? = some (.cells #[.int .i64 3, .int .i64 nn, .int .i64 0, .slice none 0 0, .slice none 0 0, .slice none 0 0] 26 (0, 0)) := by
          rw [hwL]; exact (HK.out.bel.block gi (by rw [HK.out.hB]; exact hgi)).trans HGI.out.1
        have HL : Hid (q < B2 ∧ q + 1 < gi ∧ gi < B2) := by
          have a1 := HK.out.hB
          have a2 := HK.out.sz
          have a3 := HGI.out.2
          have a4 : q < w2.heap.size := by have := HR2.out.lt; omega
          refine ⟨by omega, a3, by omega⟩
        have HQL : Hid (wL.heap[q]? = some zo ∧ Below q w wL) := by rw [hwL]; exact ⟨HK.out.rh.hq, HK.out.rh.bel⟩
        have bk := (ip.box6 hbox).1
        rw [hwL] at bk
        have K1 : Hid (RT 3 nn gi B2 wL (MU T nn) 0 (.slice none 0 0) (fun _ => 0) wr) := ⟨by rw [← hwL]; exact hbox, by rw [tl3_zero]; exact World.ownsRow_nil _ _ _ _, fun j hj => by omega, by rw [hwL]; exact Up.refl _ _ _, by rw [hB2]; exact Nat.le_refl _, HL.out.2.2⟩
        have HWL := Lib.hid hwL
        have HB2 := Lib.hid hB2
        clear HK hgi hbox HGI hwL hB2
        go_wp2
        clear bk c0
        go_loopw [18, 19] (fun x i wr => ∃ (a : Nat) (vC : Value) (gs : Nat → Nat), a ≤ nn ∧ x = .int .i64 (rs nn a) ∧ i = .int .i64 a ∧ Hid (RT 3 nn gi B2 wL (MU T nn) a vC gs wr)) (fun _ i _ => nn - (intOf i).toNat)
        case atStart => exact ⟨0, _, _, by omega, rfl, rfl, K1⟩
        case round =>
          clear K1
          obtain ⟨a, vC, gs, ha, rfl, rfl, HC⟩ := hrel
          by_cases hal : a < nn
          · have q1 : (a : Int) < (nn : Int) := by omega
            have q2 : (0 : Int) ≤ (a : Int) := by omega
            obtain ⟨w5, hrun, hr5, hg5⟩ := run_make_full (P := Try.prog) wr B2 23 3 i0 (.int .i64 0) 1 Try.underlying23 hi hz0 hz1 .i64 .i64 nn (by rw [hz2]; omega) (by unfold maxLen; omega) HC.out.sz
            have hr4 : w5.ownsRow B2 3 1 (.slice (some ⟨wr.heap.size, 0, none⟩) nn nn) nn (rwv (Mc (MU T nn) 0) nn a) := by have := hr5; rw [Nat.mul_one] at this; rw [Mc_zero, toList_one]; exact this
            have HI0 := Lib.hid (HC.out.begin hr4 hg5)
            clear hr5 hr4 hg5 HC
            generalize wr = wo at *
            go_wp2
            generalize wo.heap.size = gr at *
            clear hrun
            go_loopw [18, 21] (fun x i wr2 => ∃ c : Nat, c ≤ nn ∧ x = .int .i64 (rs nn a + (c - a - 1) : Nat) ∧ i = .int .i64 c ∧ Hid (RTI 3 nn gi B2 wL (MU T nn) a vC gs gr c wr2)) (fun _ i _ => nn - (intOf i).toNat)
            case atStart => exact ⟨0, by omega, congrArg (fun k : Nat => Value.int .i64 (k : Int)) (by omega), rfl, HI0⟩
            case round =>
              clear HI0
              obtain ⟨c, hc, rfl, rfl, HI⟩ := hrel
              by_cases hcl : c < nn
              · have q3 : (c : Int) < (nn : Int) := by omega
                have q4 : (0 : Int) ≤ (c : Int) := by omega
                have c5 := (HI.out.row.cellAt c (by omega)).trans (rwv_at _ _ _ _ hcl)
                have f5 := HI.out.row.frozenAt c
                obtain ⟨ix, hix⟩ : ∃ ix, ix = rs nn a + (c - a - 1) := ⟨_, rfl⟩
                rw [← hix]
                by_cases hca : c < a
                · obtain ⟨gC, cC, rfl, hgC1, hgC2⟩ := HI.out.t.top.form (by omega)
                  have g1 : (c : Int) < (a : Int) := by omega
                  have x1 := cell_of_row _ gi 5 _ 26 _ HI.out.t.box
                  have x2 := (HI.out.t.top.cellAt c (by omega)).trans (tl3_at _ _ _ _ hca)
                  have x3 := ((HI.out.t.rows c hca).cellAt a (by omega)).trans (rwv_at _ _ _ _ hal)
                  simp at x1
                  have hM : (MU T nn) c a = (MU T nn) a c := by unfold MU; rw [if_neg (by omega), if_pos hca, if_neg (by omega), if_neg (by omega)]
                  rw [hM] at x3
                  have HN := Lib.hid (HI.out.store (x := (MU T nn) a c) rfl)
                  have HX : Hid (rs nn a + (c + 1 - a - 1) = ix) := Lib.hid (by omega)
                  clear hM hix HI hgC1 hgC2
                  go_wp2
                  go_roundw
                  case rel => exact ⟨c + 1, by omega, congrArg (fun k : Nat => Value.int .i64 (k : Int)) (by have := HX.out; omega), by go_num, HN⟩
                  case measure => simp [intOf]; omega
                · have g1 : ¬ (c : Int) < (a : Int) := by omega
                  by_cases hac : a < c
                  · have g2 : (a : Int) < (c : Int) := by omega
                    have hl := rs_lt nn a c hac hcl
                    have hib : ix < cn ∧ cn ≤ 300 := by
                      rw [HCN.out, hix]
                      refine ⟨hl, ?_⟩
                      have := rs_b ⟨nn, by omega⟩
                      exact this
                    have q5 : (ix : Int) < (cn : Int) := by omega
                    have q6 : (0 : Int) ≤ (ix : Int) := by omega
                    have e2 : IntKind.i64.wrap ((ix : Int) + 1) = (ix : Int) + 1 := IntWalk.i64_in _ (by omega)
                    obtain ⟨gl, rfl, hgl1, hgl2, hgl3⟩ := HNM.out (by omega)
                    have cnu := (HI.out.t.far hgl1 hgl2 ix).trans (hgl3 ix hib.1)
                    clear hgl1 hgl2 hgl3
                    have hM : (tk T (3 + ix)).num = (MU T nn) a c := by unfold MU; rw [if_neg (by omega), if_pos hac, hix]
                    rw [hM] at cnu
                    have HN := Lib.hid (HI.out.store (x := (MU T nn) a c) rfl)
                    have HX : Hid (rs nn a + (c + 1 - a - 1) = ix + 1) := Lib.hid (by omega)
                    clear hib hM hix HI hl
                    go_wp2
                    go_roundw
                    case rel => exact ⟨c + 1, by omega, (show Value.int .i64 ((ix + 1 : Nat) : Int) = _ from congrArg (fun k : Nat => Value.int .i64 (k : Int)) (by have := HX.out; omega)), by go_num, HN⟩
                    case measure => simp [intOf]; omega
                  · obtain rfl : a = c := by omega
                    have HN := Lib.hid (HI.out.skip (show (MU T nn) a a = 0 from by unfold MU; rw [if_pos rfl]))
                    have HX : Hid (rs nn a + (a + 1 - a - 1) = ix) := Lib.hid (by omega)
                    clear hix HI c5 f5
                    go_wp2
                    go_roundw
                    case rel => exact ⟨a + 1, by omega, congrArg (fun k : Nat => Value.int .i64 (k : Int)) (by have := HX.out; omega), by go_num, HN⟩
                    case measure => simp [intOf]; omega
              · obtain rfl : c = nn := by omega
                have hbs : B2 ≤ (wr.alloc (.cells #[.slice (some ⟨gr, 0, none⟩) c c] 23)).heap.size := by rw [World.size_alloc]; have := HI.out.t.sz; omega
                have x1 := cell_of_row _ gi 5 _ 26 _ HI.out.t.box
                simp at x1
                go_wp2_with (at_builtin; refine wpList_append_lies _ rfl _ _ 24 rfl B2 23 i23 (.slice none 0 0) 1 24 Try.underlying24 hi23 hy0 hy1 hy2 rfl (by decide) vC a _ rfl (HI.out.t.top.alloc _) ⟨wr.heap.size, 0, none⟩ 1 1 [.slice (some ⟨gr, 0, none⟩) c c] rfl rfl (cell_one_new _ _ _) (by simp [Value.oneCell']) (by decide) (by unfold maxLen; omega) (by omega) hbs _ rfl ?_)
                intro g5 cap5 w6 hown5 hgrow5 hl5 hlt5
                obtain ⟨hp1, hp2, hp3⟩ := HI.out.put hown5 hgrow5
                have HN := Lib.hid hp1
                clear hown5 hgrow5 hl5 hlt5 HI hbs x1 hp1
                go_wp2
                go_roundw
                case rel => exact ⟨a + 1, _, _, by omega, congrArg (fun k : Nat => Value.int .i64 (k : Int)) (show rs c a + (c - a - 1) = rs c (a + 1) from (by show _ = rs c a + (c - 1 - a); omega)), by go_num, HN⟩
                case measure => simp [intOf]; omega
          · obtain rfl : a = nn := by omega
            obtain ⟨gt, ct, rfl, hgt1, hgt2⟩ := HC.out.top.form (by omega)
            have hq := (HC.out.up.block q HL.out.1 (by have := HL.out.2.1; omega)).trans HQL.out.1
            unfold zo at hq
            have HBQ : Hid (Below q w wr) := ⟨HC.out.up.os.trans HQL.out.2.os, HC.out.up.tape.trans HQL.out.2.tape, HC.out.up.output.trans HQL.out.2.output, Nat.le_trans HQL.out.2.size HC.out.up.size, fun k hk => by have := HL.out; exact (HC.out.up.block k (by omega) (by omega)).trans (HQL.out.2.block k hk)⟩
            obtain ⟨y0, y1, y2, y3, y4, y5⟩ := ip.box6 HC.out.box
            obtain ⟨z0, z1, z2, z3, z4, z5⟩ := ip.box6 hq
            have zf := ip.fr6 hq
            have f0 := zf 0; have f1 := zf 1; have f2 := zf 2; have f3 := zf 3; have f4 := zf 4; have f5 := zf 5
            have R6 := Lib.hid (ip.box6 (ip.six hq (.int .i64 3) (.int .i64 a) (.int .i64 0) (.slice none 0 0) (.slice none 0 0) (.slice (some ⟨gt, 0, none⟩) a ct)))
            have FN : Hid (PaR w (PR T) (.returned (.tuple #[.agg #[.int .i64 3, .int .i64 a, .int .i64 0, .slice none 0 0, .slice none 0 0, .slice (some ⟨gt, 0, none⟩) a ct], .int .i64 0, .int .i64 0])) ((((((wr.setCell ⟨q, 0, none⟩ (.int .i64 3)).setCell ⟨q, 1, none⟩ (.int .i64 a)).setCell ⟨q, 2, none⟩ (.int .i64 0)).setCell ⟨q, 3, none⟩ (.slice none 0 0)).setCell ⟨q, 4, none⟩ (.slice none 0 0)).setCell ⟨q, 5, none⟩ (.slice (some ⟨gt, 0, none⟩) a ct))) := tab_out HC.out HL.out.1 (by omega) HBQ.out HQ.out HPR.out _ _ _ _ _ _
            clear HC hq zf hgt1 hgt2 HBQ
            go_wp2
            obtain ⟨r0, r1, r2, r3, r4, r5⟩ := R6.out
            exact bodyPost_ret (v := .tuple #[.agg #[.int .i64 3, .int .i64 a, .int .i64 0, .slice none 0 0, .slice none 0 0, .slice (some ⟨gt, 0, none⟩) a ct], .int .i64 0, .int .i64 0]) (by simp [results, Try.results8, go_sem, r0, r1, r2, r3, r4, r5]) rfl FN.out
      · have HPR : Hid (PR T = .bad t.at_ 7) := by
          have := HPT.out HK.out.ok (by rw [← hpk, ← HTK.out]; exact k3)
          rw [← hpk, ← HTK.out] at this
          exact this
        have d3 : (t.kind != 3) = true := by simpa using k3
        obtain ⟨av, hav⟩ : ∃ av, av = t.at_ := ⟨_, rfl⟩
        rw [← hav] at c3 HPR
        have b1 := HK.out.rh.hq; have b2 := HK.out.rh.hz; have b3 := HK.out.rh.gq; have b4 := HK.out.rh.bel
        have b0 : q ≠ q + 1 := by omega
        have mp : pk < T.length := by omega
        generalize t.kind = kd at *
        clear HPG HPT k3 HTK hpk HPK c1 c2 HK hav
        have HZ := Lib.hid (ret_zero wr q (q + 1) g (pk * 4 + 3) av (by assumption) (by assumption) (by assumption) (by assumption) (by assumption) (by assumption))
        go_wp2
        refine wp_region_held_drew (S := ZS (q + 1) g (pk * 4 + 3) av) (by kernel_rfl) HZ.out.1 (fun hHeld => ?_)
        obtain ⟨-, HY, ⟨z0, z1, z2, z3, z4, z5⟩, ⟨f0, f1, f2, f3, f4, f5⟩, R6, BZ⟩ := HZ.out
        have HYh := Lib.hid HY
        unfold z6 at R6
        have R6h := Lib.hid R6
        have BZh := Lib.hid BZ
        clear HZ HY R6 BZ
        generalize World.drew _ = W3 at *
        refine wpAnyH_take (i := 0) (v := ?va16) (by rw [List.getElem?_toArray]; rfl) (by kernel_rfl) (by kernel_rfl) (by kernel_rfl) ?qa16 (Or.inl ⟨by rfl, ?ya16⟩) hHeld ?ra16
        case qa16 => exact fun _ _ _ h => h
        case ya16 => (intro wz hSw; obtain ⟨⟨s0, s1, s2, s3, s4, s5⟩, s6⟩ := hSw; go_simp; try (with_reducible rfl))
        simp only [Act.put, List.setIfInBounds_toArray, List.set_cons_zero, List.set_cons_succ]
        refine wpAnyH_take (i := 1) (v := ?va17) (by rw [List.getElem?_toArray]; rfl) (by kernel_rfl) (by kernel_rfl) (by kernel_rfl) ?qa17 (Or.inl ⟨by rfl, ?ya17⟩) hHeld ?ra17
        case qa17 => exact fun _ _ _ h => h
        case ya17 => (intro wz hSw; obtain ⟨⟨s0, s1, s2, s3, s4, s5⟩, s6⟩ := hSw; go_simp; try (with_reducible rfl))
        simp only [Act.put, List.setIfInBounds_toArray, List.set_cons_zero, List.set_cons_succ]
        refine wpAnyH_take (i := 2) (v := ?va18) (by rw [List.getElem?_toArray]; rfl) (by kernel_rfl) (by kernel_rfl) (by kernel_rfl) ?qa18 (Or.inl ⟨by rfl, ?ya18⟩) hHeld ?ra18
        case qa18 => exact fun _ _ _ h => h
        case ya18 => (intro wz hSw; obtain ⟨⟨s0, s1, s2, s3, s4, s5⟩, s6⟩ := hSw; go_simp; try (with_reducible rfl))
        simp only [Act.put, List.setIfInBounds_toArray, List.set_cons_zero, List.set_cons_succ]
        refine wpAnyH_take (i := 3) (v := ?va19) (by rw [List.getElem?_toArray]; rfl) (by kernel_rfl) (by kernel_rfl) (by kernel_rfl) ?qa19 (Or.inl ⟨by rfl, ?ya19⟩) hHeld ?ra19
        case qa19 => exact fun _ _ _ h => h
        case ya19 => (intro wz hSw; obtain ⟨⟨s0, s1, s2, s3, s4, s5⟩, s6⟩ := hSw; go_simp; try (with_reducible rfl))
        simp only [Act.put, List.setIfInBounds_toArray, List.set_cons_zero, List.set_cons_succ]
        refine wpAnyH_take (i := 4) (v := ?va20) (by rw [List.getElem?_toArray]; rfl) (by kernel_rfl) (by kernel_rfl) (by kernel_rfl) ?qa20 (Or.inl ⟨by rfl, ?ya20⟩) hHeld ?ra20
        case qa20 => exact fun _ _ _ h => h
        case ya20 => (intro wz hSw; obtain ⟨⟨s0, s1, s2, s3, s4, s5⟩, s6⟩ := hSw; go_simp; try (with_reducible rfl))
        simp only [Act.put, List.setIfInBounds_toArray, List.set_cons_zero, List.set_cons_succ]
        refine wpAnyH_take (i := 5) (v := ?va21) (by rw [List.getElem?_toArray]; rfl) (by kernel_rfl) (by kernel_rfl) (by kernel_rfl) ?qa21 (Or.inl ⟨by rfl, ?ya21⟩) hHeld ?ra21
        case qa21 => exact fun _ _ _ h => h
        case ya21 => (intro wz hSw; obtain ⟨⟨s0, s1, s2, s3, s4, s5⟩, s6⟩ := hSw; go_simp; try (with_reducible rfl))
        simp only [Act.put, List.setIfInBounds_toArray, List.set_cons_zero, List.set_cons_succ]
        refine wpAnyH_ready (rs := [6]) (by kernel_rfl) (by simp) ?_
        refine AllReadyH.cons (by rw [List.getElem?_toArray]; rfl) (fun K hK => ?_) AllReadyH.nil
        clear hHeld
        go_simp
        refine hK.out _ _ HYh.out (fun hHeld => ?_)
        clear hK K HYh
        refine wpAnyH_take (i := 7) (v := ?va22) (by rw [List.getElem?_toArray]; rfl) (by kernel_rfl) (by kernel_rfl) (by kernel_rfl) ?qa22 (Or.inl ⟨by rfl, ?ya22⟩) hHeld ?ra22
        case qa22 => exact fun _ _ _ h => h
        case ya22 => (intro wz hSw; clear hSw; go_simp; try (with_reducible rfl))
        simp only [Act.put, List.setIfInBounds_toArray, List.set_cons_zero, List.set_cons_succ]
        refine wpAnyH_take (i := 8) (v := ?va23) (by rw [List.getElem?_toArray]; rfl) (by kernel_rfl) (by kernel_rfl) (by kernel_rfl) ?qa23 (Or.inl ⟨by rfl, ?ya23⟩) hHeld ?ra23
        case qa23 => exact fun _ _ _ h => h
        case ya23 => (intro wz hSw; clear hSw; go_simp; try (with_reducible rfl))
        simp only [Act.put, List.setIfInBounds_toArray, List.set_cons_zero, List.set_cons_succ]
        refine wpAnyH_done (by kernel_rfl) ?_ _
        clear hHeld
        go_wp2
        obtain ⟨r0, r1, r2, r3, r4, r5⟩ := R6h.out
        exact bodyPost_ret (v := .tuple #[.agg #[.int .i64 0, .int .i64 0, .int .i64 0, .slice none 0 0, .slice none 0 0, .slice none 0 0], .int .i64 av, .int .i64 7]) (by simp [results, Try.results8, go_sem, r0, r1, r2, r3, r4, r5]) rfl (show PaR w (PR T) _ _ from by rw [HPR.out]; exact ⟨rfl, by rw [← HQ.out]; exact BZh.out⟩)
end Go.Proofs.Ytjojdpohifdghaa

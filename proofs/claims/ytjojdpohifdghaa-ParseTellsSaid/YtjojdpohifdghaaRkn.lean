/-
  The reference's Parse, where the numbers of a knapsack are read.
-/
import Derived.Test.YtjojdpohifdghaaR55
namespace Go.Proofs.Ytjojdpohifdghaa
open Go.RowKit
set_option linter.unusedVariables false
theorem ints_rowR {W : World} {B n c g : Nat} {l : List Int} (hl : l.length = n) (h : W.ownsRow B 3 1 (.slice (some ⟨g, 0, none⟩) n c) n (enc l)) : ip.Ints W (some ⟨g, 0, none⟩) l := fun j hj => by
  refine ⟨g, 0, rfl, (h.lt g rfl).2, ?_⟩
  rw [Nat.zero_add, h.cellAt j (by omega)]
  unfold enc
  rw [List.getElem?_map, List.getElem?_eq_getElem hj]
  rfl
theorem k_outR {nn : Nat} {cp : Int} {gl cn gi B q gw gv cw cv : Nat} {w wL wr : World} {T : List Tok} (h : KR T nn cp gl cn gi B wL nn nn (.slice (some ⟨gw, 0, none⟩) nn cw) (.slice (some ⟨gv, 0, none⟩) nn cv) (.slice (some ⟨gw, 0, none⟩) nn cw) (.slice (some ⟨gv, 0, none⟩) nn cv) wr) (hqB : q < B) (hb : Below q w wr) (hq : q = w.heap.size) (hP : PR T = .ok 1 nn cp (WK T nn) (VK T nn) []) (v0 v1 v2 v3 v4 v5 : Value) :
    PaR w (PR T) (.returned (.tuple #[.agg #[.int .i64 1, .int .i64 nn, .int .i64 cp, .slice (some ⟨gw, 0, none⟩) nn cw, .slice (some ⟨gv, 0, none⟩) nn cv, .slice none 0 0], .int .i64 0, .int .i64 0])) ((((((wr.setCell ⟨q, 0, none⟩ v0).setCell ⟨q, 1, none⟩ v1).setCell ⟨q, 2, none⟩ v2).setCell ⟨q, 3, none⟩ v3).setCell ⟨q, 4, none⟩ v4).setCell ⟨q, 5, none⟩ v5) := by
  rw [hP]
  have hW := ownsRow_setCell_below (a := ⟨q, 5, none⟩) (ownsRow_setCell_below (a := ⟨q, 4, none⟩) (ownsRow_setCell_below (a := ⟨q, 3, none⟩) (ownsRow_setCell_below (a := ⟨q, 2, none⟩) (ownsRow_setCell_below (a := ⟨q, 1, none⟩) (ownsRow_setCell_below (a := ⟨q, 0, none⟩) h.rw hqB v0) hqB v1) hqB v2) hqB v3) hqB v4) hqB v5
  have hV := ownsRow_setCell_below (a := ⟨q, 5, none⟩) (ownsRow_setCell_below (a := ⟨q, 4, none⟩) (ownsRow_setCell_below (a := ⟨q, 3, none⟩) (ownsRow_setCell_below (a := ⟨q, 2, none⟩) (ownsRow_setCell_below (a := ⟨q, 1, none⟩) (ownsRow_setCell_below (a := ⟨q, 0, none⟩) h.rv hqB v0) hqB v1) hqB v2) hqB v3) hqB v4) hqB v5
  have hB := ip.six_below hb (Nat.le_refl q) v0 v1 v2 v3 v4 v5
  rw [hq] at hB
  have l1 := WK_len T nn
  have l2 := VK_len T nn
  exact ⟨some ⟨gw, 0, none⟩, some ⟨gv, 0, none⟩, none, cw, cv, 0, by rw [l1, l2]; rfl, ints_rowR l1 hW, ints_rowR l2 hV, fun j hj => by simp at hj, by rw [hq]; exact hB⟩
set_option maxRecDepth 100000 in
set_option maxHeartbeats 16000000 in
theorem rp_knap (s : ByteArray) (T : List Tok) (hT : Toks T) (nn : Nat) (w : World) (h0 : (tk T 0).kind = 1) (EW : (tk T 0).text = nm1) (h1 : (tk T 1).kind = 2) (hn : (tk T 1).num = nn) (h2 : 1 ≤ nn) (h3 : nn ≤ 64) (HS : Hid (∀ W, Calls Try.prog 17 #[.string s] W fun e w' => ∃ v, e = .returned (.tuple #[v, .int .i64 0, .int .i64 0]) ∧ w'.ownsRow W.heap.size 51 4 v T.length (encL T) ∧ Below W.heap.size W w')) :
    Calls Try.prog 8 #[.string s] w (PaR w (PR T)) := by
  obtain ⟨i0, hi, hz0, hz1, hz2⟩ := info_parts info3
  have hPS := ps_knap h0 EW h1 hn h2 h3
  have hlen : 2 < T.length := by
    have a0 := hT.more hT.pos (show ¬ (tk T 0).kind = 3 by omega)
    have a1 := hT.more a0 (show ¬ (tk T 1).kind = 3 by omega)
    exact a1
  have HIX : Hid (∀ j, (∀ i, i < j → eK i (tk T (2 + i)) = 0) → 2 + j < T.length) := fun j ok => idx_lt hT eK_go hlen j ok
  have HPE : Hid (∀ j e, j < (1 + 2 * nn) → (∀ i, i < j → eK i (tk T (2 + i)) = 0) → eK j (tk T (2 + j)) = e → e ≠ 0 → PR T = .bad (tk T (2 + j)).at_ e) := fun j e hj ok he h0 => pr_err hPS hj ok he h0
  have HPT : Hid ((∀ i, i < (1 + 2 * nn) → eK i (tk T (2 + i)) = 0) → ¬ (tk T (2 + (1 + 2 * nn))).kind = 3 → PR T = .bad (tk T (2 + (1 + 2 * nn))).at_ 7) := fun ok hk => pr_tail hPS ok hk
  have HPG : Hid ((∀ i, i < (1 + 2 * nn) → eK i (tk T (2 + i)) = 0) → (tk T (2 + (1 + 2 * nn))).kind = 3 → PR T = PGknap T nn) := fun ok hk => pg_knap h0 EW h1 hn h2 h3 ok hk
  have HKI := Lib.hid hT
  have HCB : Hid (∀ j, j < (1 + 2 * nn) → j < 2000) := fun j hj => by omega
  have HW := Lib.hid (fun W => want_knap nn h2 h3 W)
  clear hPS hT
  unfold nm1 at EW
  go_enter Try.func8, Try.ntmps8
  go_wp2_with fail
  refine (HS.out _).mono ?_
  rintro e w1 ⟨v, rfl, hO, hB⟩
  obtain ⟨g, cap, rfl, hg1, hg2⟩ := hO.form (by omega)
  have HR : Hid (RH s T w w.heap.size g cap w1) := rh_of hO hB
  clear HS hO hB hg1 hg2
  obtain ⟨q, hq⟩ : ∃ q, q = w.heap.size := ⟨_, rfl⟩
  rw [← hq] at HR
  have HQ := Lib.hid hq
  rw [← hq]
  clear hq
  have c00 := (HR.out.tr.at (p := 0) (by omega)).1
  have c01 := (HR.out.tr.at (p := 0) (by omega)).2.1
  rw [h0] at c00
  rw [EW] at c01
  have c10 := (HR.out.tr.at (p := 1) (by omega)).1
  have c12 := (HR.out.tr.at (p := 1) (by omega)).2.2.1
  rw [h1] at c10
  rw [hn] at c12
  have l0 : (0 : Int) < (T.length : Int) := by omega
  have l1 : (1 : Int) < (T.length : Int) := by omega
  skip
  have d0 : ((nn : Int) == 0) = false := by simp; omega
  have d1 : ¬ 64 < (nn : Int) := by omega
  clear h0 EW h1 hn
  have HR2 : Hid (RH s T w q g cap (w1.alloc (.cells #[.int .i64 1, .int .i64 nn, .int .i64 0, .slice none 0 0, .slice none 0 0, .slice none 0 0] 26))) := HR.out.up (bl_al (Below.refl _ _) _)
  have HGI : Hid ((w1.alloc (.cells #[.int .i64 1, .int .i64 nn, .int .i64 0, .slice none 0 0, .slice none 0 0, .slice none 0 0] 26)).heap[w1.heap.size]? = some (.cells #[.int .i64 1, .int .i64 nn, .int .i64 0, .slice none 0 0, .slice none 0 0, .slice none 0 0] 26 (0, 0)) ∧ q + 1 < w1.heap.size) := ⟨heap_alloc_new w1 _, HR.out.lt⟩
  clear HR
  go_upto_region 34 with fail
  clear c00 c01 c10 c12 d0 d1
  generalize w1.alloc (.cells #[.int .i64 1, .int .i64 nn, .int .i64 0, .slice none 0 0, .slice none 0 0, .slice none 0 0] 26) = w2 at *
  generalize w1.heap.size = gi at *
  go_wp2_with fail
  refine (HW.out _).mono ?_
  rintro e w3 ⟨rfl, rfl⟩
  clear HW
  obtain ⟨B, hB⟩ : ∃ B, B = w2.heap.size := ⟨_, rfl⟩
  have K0 : Hid (RN eK s T w q g cap 2 w2 B 0 (.slice none 0 0) w2) := ⟨HR2.out, hB, by rw [hB]; exact Below.refl _ _, by rw [show enc (nmL T 2 0) = [] from rfl]; exact World.ownsRow_nil _ _ _ _, fun i hi => by omega, by rw [hB]; exact Nat.le_refl _⟩
  have HB := Lib.hid hB
  clear hB
  have hdec : decide ((64 : Int) < (nn : Int)) = false := by simp; omega
  go_wp2
  try rw [hdec]
  clear hdec
  go_loopw [13, 14, 15] (fun kv nv mv wr => ∃ (j : Nat) (vN : Value), j ≤ (1 + 2 * nn) ∧ kv = .int .i64 ((2 + j : Nat) : Int) ∧ nv = vN ∧ mv = .int .i64 ((((1 + 2 * nn) - j : Nat)) : Int) ∧ Hid (RN eK s T w q g cap 2 w2 B j vN wr)) (fun _ _ mv _ => (intOf mv).toNat)
  case atStart => exact ⟨0, _, by omega, rfl, rfl, rfl, K0⟩
  case round =>
    clear K0
    obtain ⟨j, vN, hj, rfl, hvN, rfl, HK⟩ := hrel
    have hvN2 := hvN.symm
    clear hvN
    subst hvN2
    have hlt := HIX.out j HK.out.ok
    obtain ⟨pk, hpk⟩ : ∃ pk, pk = 2 + j := ⟨_, rfl⟩
    rw [← hpk] at hlt ⊢
    have HPK := Lib.hid hpk
    have q1 : (pk : Int) < (T.length : Int) := by omega
    have q2 : (0 : Int) ≤ (pk : Int) := by omega
    obtain ⟨t, ht⟩ : ∃ t, t = tk T pk := ⟨_, rfl⟩
    obtain ⟨c0, c1, c2, c3⟩ := HK.out.rh.tr.at hlt
    rw [← ht] at c0 c1 c2 c3
    have HTK := Lib.hid ht
    have HKD : Hid (t.kind = 1 ∨ t.kind = 2 ∨ t.kind = 3) := by rw [ht]; exact (HKI.out.kinds pk).imp id (Or.imp And.left And.left)
    clear ht hlt
    by_cases hjl : j < (1 + 2 * nn)
    · clear hpk
      have gm : (0 : Int) < (((1 + 2 * nn) - j : Nat) : Int) := by omega
      obtain ⟨mj, hmj⟩ : ∃ mj, mj = (1 + 2 * nn) - j := ⟨_, rfl⟩
      rw [← hmj] at gm ⊢
      have hmj2 : (1 + 2 * nn) - (j + 1) = mj - 1 := by omega
      have hmj1 : 1 ≤ mj := by omega
      have hmj3 : mj ≤ (1 + 2 * nn) := by omega
      have hmj4 : (1 + 2 * nn) ≤ 2000 := by have := HCB.out ((1 + 2 * nn) - 1) (by omega); omega
      have HMJ := Lib.hid (And.intro hmj2 (And.intro hmj1 (Nat.le_trans hmj3 hmj4)))
      clear hmj hmj2 hmj1 hmj3 hmj4 hj
      go_upto_region 38 with fail
      clear c0 c1 c2 c3
      have HR3 : Hid (RH s T w q g cap (wr.alloc (.cells #[.int .i64 t.kind, .string t.text, .int .i64 t.num, .int .i64 t.at_] 51))) := HK.out.rh.up (bl_al (Below.refl _ _) _)
      have HT3 : Hid ((wr.alloc (.cells #[.int .i64 t.kind, .string t.text, .int .i64 t.num, .int .i64 t.at_] 51)).heap[wr.heap.size]? = some (.cells #[.int .i64 t.kind, .string t.text, .int .i64 t.num, .int .i64 t.at_] 51 (0, 0)) ∧ q ≠ wr.heap.size ∧ q + 1 ≠ wr.heap.size) := ⟨heap_alloc_new _ _, by have := HK.out.rh.lt; omega, by have := HK.out.rh.lt; omega⟩
      have HK3 := Lib.hid (HK.out.alloc (.cells #[.int .i64 t.kind, .string t.text, .int .i64 t.num, .int .i64 t.at_] 51))
      obtain ⟨tb, htb⟩ : ∃ tb, tb = wr.heap.size := ⟨_, rfl⟩
      rw [← htb] at HT3 ⊢
      clear htb HK
      generalize wr.alloc (.cells #[.int .i64 t.kind, .string t.text, .int .i64 t.num, .int .i64 t.at_] 51) = w3 at *
      obtain ⟨t0, t2, t3⟩ : w3.cell? ⟨tb, 0, none⟩ = some (.int .i64 t.kind) ∧ w3.cell? ⟨tb, 2, none⟩ = some (.int .i64 t.num) ∧ w3.cell? ⟨tb, 3, none⟩ = some (.int .i64 t.at_) := ⟨cell_of_row _ _ 0 _ _ _ HT3.out.1, cell_of_row _ _ 2 _ _ _ HT3.out.1, cell_of_row _ _ 3 _ _ _ HT3.out.1⟩
      by_cases k3 : t.kind = 3
      · rw [k3] at t0
        have HPR : Hid (PR T = .bad t.at_ 6) := by
          have := HPE.out j 6 hjl HK3.out.ok (by rw [← HPK.out, ← HTK.out]; exact eE3 k3) (by decide)
          rw [← HPK.out, ← HTK.out] at this
          exact this
        clear k3
        obtain ⟨av, hav⟩ : ∃ av, av = t.at_ := ⟨_, rfl⟩
        rw [← hav] at t3 HPR
        clear hav HK3 HIX HPE HPT HPG HKI HMJ HKD HPK HTK hjl
        have b1 := HR3.out.hq; have b2 := HR3.out.hz; have b3 := HT3.out.2.1; have b4 := HR3.out.bel
        have b0 : q ≠ q + 1 := by omega
        clear HR3 HT3
        have HZ := Lib.hid (ret_zero w3 q (q + 1) tb 3 av (by assumption) (by assumption) (by assumption) (by assumption) (by assumption) (by assumption))
        go_wp2
        refine wp_region_held_drew (S := ZS (q + 1) tb 3 av) (by kernel_rfl) HZ.out.1 (fun hHeld => ?_)
        obtain ⟨-, HY, ⟨z0, z1, z2, z3, z4, z5⟩, ⟨f0, f1, f2, f3, f4, f5⟩, R6, BZ⟩ := HZ.out
        have HYh := Lib.hid HY
        unfold z6 at R6
        have R6h := Lib.hid R6
        have BZh := Lib.hid BZ
        clear HZ HY R6 BZ
        generalize World.drew _ = W3 at *
        refine wpAnyH_take (i := 0) (v := ?va1) (by rw [List.getElem?_toArray]; rfl) (by kernel_rfl) (by kernel_rfl) (by kernel_rfl) ?qa1 (Or.inl ⟨by rfl, ?ya1⟩) hHeld ?ra1
        case qa1 => exact fun _ _ _ h => h
        case ya1 => (intro wz hSw; obtain ⟨⟨s0, s1, s2, s3, s4, s5⟩, s6⟩ := hSw; go_simp; try (with_reducible rfl))
        simp only [Act.put, List.setIfInBounds_toArray, List.set_cons_zero, List.set_cons_succ]
        refine wpAnyH_take (i := 1) (v := ?va2) (by rw [List.getElem?_toArray]; rfl) (by kernel_rfl) (by kernel_rfl) (by kernel_rfl) ?qa2 (Or.inl ⟨by rfl, ?ya2⟩) hHeld ?ra2
        case qa2 => exact fun _ _ _ h => h
        case ya2 => (intro wz hSw; obtain ⟨⟨s0, s1, s2, s3, s4, s5⟩, s6⟩ := hSw; go_simp; try (with_reducible rfl))
        simp only [Act.put, List.setIfInBounds_toArray, List.set_cons_zero, List.set_cons_succ]
        refine wpAnyH_take (i := 2) (v := ?va3) (by rw [List.getElem?_toArray]; rfl) (by kernel_rfl) (by kernel_rfl) (by kernel_rfl) ?qa3 (Or.inl ⟨by rfl, ?ya3⟩) hHeld ?ra3
        case qa3 => exact fun _ _ _ h => h
        case ya3 => (intro wz hSw; obtain ⟨⟨s0, s1, s2, s3, s4, s5⟩, s6⟩ := hSw; go_simp; try (with_reducible rfl))
        simp only [Act.put, List.setIfInBounds_toArray, List.set_cons_zero, List.set_cons_succ]
        refine wpAnyH_ready (rs := [3]) (by kernel_rfl) (by simp) ?_
        refine AllReadyH.cons (by rw [List.getElem?_toArray]; rfl) (fun K hK => ?_) AllReadyH.nil
        clear hHeld
        go_simp
        refine hK.out _ _ HYh.out (fun hHeld => ?_)
        clear hK K HYh
        refine wpAnyH_take (i := 4) (v := ?va4) (by rw [List.getElem?_toArray]; rfl) (by kernel_rfl) (by kernel_rfl) (by kernel_rfl) ?qa4 (Or.inl ⟨by rfl, ?ya4⟩) hHeld ?ra4
        case qa4 => exact fun _ _ _ h => h
        case ya4 => (intro wz hSw; clear hSw; go_simp; try (with_reducible rfl))
        simp only [Act.put, List.setIfInBounds_toArray, List.set_cons_zero, List.set_cons_succ]
        refine wpAnyH_take (i := 5) (v := ?va5) (by rw [List.getElem?_toArray]; rfl) (by kernel_rfl) (by kernel_rfl) (by kernel_rfl) ?qa5 (Or.inl ⟨by rfl, ?ya5⟩) hHeld ?ra5
        case qa5 => exact fun _ _ _ h => h
        case ya5 => (intro wz hSw; clear hSw; go_simp; try (with_reducible rfl))
        simp only [Act.put, List.setIfInBounds_toArray, List.set_cons_zero, List.set_cons_succ]
        refine wpAnyH_done (by kernel_rfl) ?_ _
        clear hHeld
        go_wp2
        obtain ⟨r0, r1, r2, r3, r4, r5⟩ := R6h.out
        exact bodyPost_ret (v := .tuple #[.agg #[.int .i64 0, .int .i64 0, .int .i64 0, .slice none 0 0, .slice none 0 0, .slice none 0 0], .int .i64 av, .int .i64 6]) (by simp [results, Try.results8, go_sem, r0, r1, r2, r3, r4, r5]) rfl (show PaR w (PR T) _ _ from by rw [HPR.out]; exact ⟨rfl, by rw [← HQ.out]; exact BZh.out⟩)
      · have d3 : (t.kind == 3) = false := by simpa using k3
        by_cases k1 : t.kind = 1
        · rw [k1] at t0
          clear d3
          have HPR : Hid (PR T = .bad t.at_ 4) := by
            have := HPE.out j 4 hjl HK3.out.ok (by rw [← HPK.out, ← HTK.out]; exact eE1 k1) (by decide)
            rw [← HPK.out, ← HTK.out] at this
            exact this
          clear k1 k3
          obtain ⟨av, hav⟩ : ∃ av, av = t.at_ := ⟨_, rfl⟩
          rw [← hav] at t3 HPR
          clear hav HK3 HIX HPE HPT HPG HKI HMJ HKD HPK HTK hjl
          have b1 := HR3.out.hq; have b2 := HR3.out.hz; have b3 := HT3.out.2.1; have b4 := HR3.out.bel
          have b0 : q ≠ q + 1 := by omega
          clear HR3 HT3
          have HZ := Lib.hid (ret_zero w3 q (q + 1) tb 3 av (by assumption) (by assumption) (by assumption) (by assumption) (by assumption) (by assumption))
          go_wp2
          refine wp_region_held_drew (S := ZS (q + 1) tb 3 av) (by kernel_rfl) HZ.out.1 (fun hHeld => ?_)
          obtain ⟨-, HY, ⟨z0, z1, z2, z3, z4, z5⟩, ⟨f0, f1, f2, f3, f4, f5⟩, R6, BZ⟩ := HZ.out
          have HYh := Lib.hid HY
          unfold z6 at R6
          have R6h := Lib.hid R6
          have BZh := Lib.hid BZ
          clear HZ HY R6 BZ
          generalize World.drew _ = W3 at *
          refine wpAnyH_take (i := 0) (v := ?va6) (by rw [List.getElem?_toArray]; rfl) (by kernel_rfl) (by kernel_rfl) (by kernel_rfl) ?qa6 (Or.inl ⟨by rfl, ?ya6⟩) hHeld ?ra6
          case qa6 => exact fun _ _ _ h => h
          case ya6 => (intro wz hSw; obtain ⟨⟨s0, s1, s2, s3, s4, s5⟩, s6⟩ := hSw; go_simp; try (with_reducible rfl))
          simp only [Act.put, List.setIfInBounds_toArray, List.set_cons_zero, List.set_cons_succ]
          refine wpAnyH_take (i := 1) (v := ?va7) (by rw [List.getElem?_toArray]; rfl) (by kernel_rfl) (by kernel_rfl) (by kernel_rfl) ?qa7 (Or.inl ⟨by rfl, ?ya7⟩) hHeld ?ra7
          case qa7 => exact fun _ _ _ h => h
          case ya7 => (intro wz hSw; obtain ⟨⟨s0, s1, s2, s3, s4, s5⟩, s6⟩ := hSw; go_simp; try (with_reducible rfl))
          simp only [Act.put, List.setIfInBounds_toArray, List.set_cons_zero, List.set_cons_succ]
          refine wpAnyH_take (i := 2) (v := ?va8) (by rw [List.getElem?_toArray]; rfl) (by kernel_rfl) (by kernel_rfl) (by kernel_rfl) ?qa8 (Or.inl ⟨by rfl, ?ya8⟩) hHeld ?ra8
          case qa8 => exact fun _ _ _ h => h
          case ya8 => (intro wz hSw; obtain ⟨⟨s0, s1, s2, s3, s4, s5⟩, s6⟩ := hSw; go_simp; try (with_reducible rfl))
          simp only [Act.put, List.setIfInBounds_toArray, List.set_cons_zero, List.set_cons_succ]
          refine wpAnyH_ready (rs := [3]) (by kernel_rfl) (by simp) ?_
          refine AllReadyH.cons (by rw [List.getElem?_toArray]; rfl) (fun K hK => ?_) AllReadyH.nil
          clear hHeld
          go_simp
          refine hK.out _ _ HYh.out (fun hHeld => ?_)
          clear hK K HYh
          refine wpAnyH_take (i := 4) (v := ?va9) (by rw [List.getElem?_toArray]; rfl) (by kernel_rfl) (by kernel_rfl) (by kernel_rfl) ?qa9 (Or.inl ⟨by rfl, ?ya9⟩) hHeld ?ra9
          case qa9 => exact fun _ _ _ h => h
          case ya9 => (intro wz hSw; clear hSw; go_simp; try (with_reducible rfl))
          simp only [Act.put, List.setIfInBounds_toArray, List.set_cons_zero, List.set_cons_succ]
          refine wpAnyH_take (i := 5) (v := ?va10) (by rw [List.getElem?_toArray]; rfl) (by kernel_rfl) (by kernel_rfl) (by kernel_rfl) ?qa10 (Or.inl ⟨by rfl, ?ya10⟩) hHeld ?ra10
          case qa10 => exact fun _ _ _ h => h
          case ya10 => (intro wz hSw; clear hSw; go_simp; try (with_reducible rfl))
          simp only [Act.put, List.setIfInBounds_toArray, List.set_cons_zero, List.set_cons_succ]
          refine wpAnyH_done (by kernel_rfl) ?_ _
          clear hHeld
          go_wp2
          obtain ⟨r0, r1, r2, r3, r4, r5⟩ := R6h.out
          exact bodyPost_ret (v := .tuple #[.agg #[.int .i64 0, .int .i64 0, .int .i64 0, .slice none 0 0, .slice none 0 0, .slice none 0 0], .int .i64 av, .int .i64 4]) (by simp [results, Try.results8, go_sem, r0, r1, r2, r3, r4, r5]) rfl (show PaR w (PR T) _ _ from by rw [HPR.out]; exact ⟨rfl, by rw [← HQ.out]; exact BZh.out⟩)
        · have k2 : t.kind = 2 := by rcases HKD.out with h | h | h <;> omega
          rw [k2] at t0
          clear d3
          by_cases k5 : 2147483647 < t.num
          · have HPR : Hid (PR T = .bad t.at_ 5) := by
              have := HPE.out j 5 hjl HK3.out.ok (by rw [← HPK.out, ← HTK.out]; exact eE5 k2 k5) (by decide)
              rw [← HPK.out, ← HTK.out] at this
              exact this
            clear k1 k2 k3
            have d5 := k5
            obtain ⟨nu, hnu⟩ : ∃ nu, nu = t.num := ⟨_, rfl⟩
            rw [← hnu] at t2 d5
            clear hnu k5
            obtain ⟨av, hav⟩ : ∃ av, av = t.at_ := ⟨_, rfl⟩
            rw [← hav] at t3 HPR
            clear hav HK3 HIX HPE HPT HPG HKI HMJ HKD HPK HTK hjl
            have b1 := HR3.out.hq; have b2 := HR3.out.hz; have b3 := HT3.out.2.1; have b4 := HR3.out.bel
            have b0 : q ≠ q + 1 := by omega
            clear HR3 HT3
            have HZ := Lib.hid (ret_zero w3 q (q + 1) tb 3 av (by assumption) (by assumption) (by assumption) (by assumption) (by assumption) (by assumption))
            go_wp2
            refine wp_region_held_drew (S := ZS (q + 1) tb 3 av) (by kernel_rfl) HZ.out.1 (fun hHeld => ?_)
            obtain ⟨-, HY, ⟨z0, z1, z2, z3, z4, z5⟩, ⟨f0, f1, f2, f3, f4, f5⟩, R6, BZ⟩ := HZ.out
            have HYh := Lib.hid HY
            unfold z6 at R6
            have R6h := Lib.hid R6
            have BZh := Lib.hid BZ
            clear HZ HY R6 BZ
            generalize World.drew _ = W3 at *
            refine wpAnyH_take (i := 0) (v := ?va11) (by rw [List.getElem?_toArray]; rfl) (by kernel_rfl) (by kernel_rfl) (by kernel_rfl) ?qa11 (Or.inl ⟨by rfl, ?ya11⟩) hHeld ?ra11
            case qa11 => exact fun _ _ _ h => h
            case ya11 => (intro wz hSw; obtain ⟨⟨s0, s1, s2, s3, s4, s5⟩, s6⟩ := hSw; go_simp; try (with_reducible rfl))
            simp only [Act.put, List.setIfInBounds_toArray, List.set_cons_zero, List.set_cons_succ]
            refine wpAnyH_take (i := 1) (v := ?va12) (by rw [List.getElem?_toArray]; rfl) (by kernel_rfl) (by kernel_rfl) (by kernel_rfl) ?qa12 (Or.inl ⟨by rfl, ?ya12⟩) hHeld ?ra12
            case qa12 => exact fun _ _ _ h => h
            case ya12 => (intro wz hSw; obtain ⟨⟨s0, s1, s2, s3, s4, s5⟩, s6⟩ := hSw; go_simp; try (with_reducible rfl))
            simp only [Act.put, List.setIfInBounds_toArray, List.set_cons_zero, List.set_cons_succ]
            refine wpAnyH_take (i := 2) (v := ?va13) (by rw [List.getElem?_toArray]; rfl) (by kernel_rfl) (by kernel_rfl) (by kernel_rfl) ?qa13 (Or.inl ⟨by rfl, ?ya13⟩) hHeld ?ra13
            case qa13 => exact fun _ _ _ h => h
            case ya13 => (intro wz hSw; obtain ⟨⟨s0, s1, s2, s3, s4, s5⟩, s6⟩ := hSw; go_simp; try (with_reducible rfl))
            simp only [Act.put, List.setIfInBounds_toArray, List.set_cons_zero, List.set_cons_succ]
            refine wpAnyH_ready (rs := [3]) (by kernel_rfl) (by simp) ?_
            refine AllReadyH.cons (by rw [List.getElem?_toArray]; rfl) (fun K hK => ?_) AllReadyH.nil
            clear hHeld
            go_simp
            refine hK.out _ _ HYh.out (fun hHeld => ?_)
            clear hK K HYh
            refine wpAnyH_take (i := 4) (v := ?va14) (by rw [List.getElem?_toArray]; rfl) (by kernel_rfl) (by kernel_rfl) (by kernel_rfl) ?qa14 (Or.inl ⟨by rfl, ?ya14⟩) hHeld ?ra14
            case qa14 => exact fun _ _ _ h => h
            case ya14 => (intro wz hSw; clear hSw; go_simp; try (with_reducible rfl))
            simp only [Act.put, List.setIfInBounds_toArray, List.set_cons_zero, List.set_cons_succ]
            refine wpAnyH_take (i := 5) (v := ?va15) (by rw [List.getElem?_toArray]; rfl) (by kernel_rfl) (by kernel_rfl) (by kernel_rfl) ?qa15 (Or.inl ⟨by rfl, ?ya15⟩) hHeld ?ra15
            case qa15 => exact fun _ _ _ h => h
            case ya15 => (intro wz hSw; clear hSw; go_simp; try (with_reducible rfl))
            simp only [Act.put, List.setIfInBounds_toArray, List.set_cons_zero, List.set_cons_succ]
            refine wpAnyH_done (by kernel_rfl) ?_ _
            clear hHeld
            go_wp2
            obtain ⟨r0, r1, r2, r3, r4, r5⟩ := R6h.out
            exact bodyPost_ret (v := .tuple #[.agg #[.int .i64 0, .int .i64 0, .int .i64 0, .slice none 0 0, .slice none 0 0, .slice none 0 0], .int .i64 av, .int .i64 5]) (by simp [results, Try.results8, go_sem, r0, r1, r2, r3, r4, r5]) rfl (show PaR w (PR T) _ _ from by rw [HPR.out]; exact ⟨rfl, by rw [← HQ.out]; exact BZh.out⟩)
          · have E0 : eK j t = 0 := eE0 k2 k5
            have d5 : ¬ 2147483647 < t.num := k5
            have hcb : j < 2000 := HCB.out j hjl
            have HN := Lib.hid (nmL_succ T 2 j)
            rw [← HPK.out, ← HTK.out] at HN
            have HOK : Hid (∀ i, i < j + 1 → eK i (tk T (2 + i)) = 0) := fun i hi => by
              by_cases e : i = j
              · subst e; rw [← HPK.out, ← HTK.out]; exact E0
              · exact HK3.out.ok i (by omega)
            clear E0
            obtain ⟨nu, hnu⟩ : ∃ nu, nu = t.num := ⟨_, rfl⟩
            rw [← hnu] at t2 HN
            rw [← hnu] at d5
            clear k1 k2 k3 k5 HKD HTK
            clear hnu
            have e1 : IntKind.i64.wrap ((pk : Int) + 1) = (pk : Int) + 1 := IntWalk.i64_in _ (by have := HKI.out.len; omega)
            have e2 : IntKind.i64.wrap ((mj : Int) - 1) = (mj : Int) - 1 := IntWalk.i64_in _ (by have := HMJ.out.2.2; omega)
            have hsz3 : B ≤ (w3.alloc (.cells #[.int .i64 nu] 3)).heap.size := by rw [World.size_alloc]; have := HK3.out.sz; omega
            go_wp2_with (at_builtin; refine wpList_append_own _ rfl _ _ 23 rfl B 3 i0 (.int .i64 0) 1 8 Try.underlying23 hi hz0 hz1 hz2 rfl (by decide) vN j _ rfl (HK3.out.row.alloc _) ⟨w3.heap.size, 0, none⟩ 1 1 [.int .i64 nu] rfl rfl (cell_one_new _ _ _) (by simp [Value.oneCell']) (by unfold maxLen; omega) (by omega) hsz3 ?_)
            intro v2 w4 hown hgrow _
            have HN4 : Hid (RN eK s T w q g cap 2 w2 B (j + 1) v2 w4) := HK3.out.app HN.out hown hgrow HOK.out
            clear hown hgrow hsz3 HK3 HN HOK HR3 HT3 t0 t2 t3
            go_wp2
            go_roundw
            case rel => exact ⟨j + 1, _, by omega, by rw [HPK.out]; go_num, rfl, by rw [HMJ.out.1]; have := HMJ.out.2.1; go_num, HN4⟩
            case measure => have := HMJ.out.2.1; simp [intOf]; omega
    · obtain rfl : j = (1 + 2 * nn) := by omega
      obtain ⟨cn, hcn⟩ : ∃ cn, cn = (1 + 2 * nn) := ⟨_, rfl⟩
      have HCN := Lib.hid hcn
      rw [Nat.sub_self, show ((0 : Nat) : Int) = 0 from rfl]
      rw [← hcn] at HK HPT HPG hpk
      clear hcn HPE HIX HKI HKD hj
      by_cases k3 : t.kind = 3
      · have HPR : Hid (PR T = PGknap T nn) := HPG.out HK.out.ok (by rw [← hpk, ← HTK.out]; exact k3)
        rw [k3] at c0
        clear HPG HPT k3 HTK hpk HPK c1 c2 c3
        have hc1 : 1 ≤ cn := by rw [HCN.out]; omega
        obtain ⟨gl, cl, rfl, hgl1, hgl2⟩ := HK.out.row.form (by omega)
        obtain ⟨B2, hB2⟩ : ∃ B2, B2 = wr.heap.size := ⟨_, rfl⟩
        obtain ⟨wL, hwL⟩ : ∃ wL, wL = wr := ⟨_, rfl⟩
        obtain ⟨cp, hcp⟩ : ∃ cp, cp = (tk T 2).num := ⟨_, rfl⟩
        have hgi : gi < w2.heap.size := lt_blk HGI.out.1
        have hbox : wr.heap[gi]? = some (.cells #[.int .i64 1, .int .i64 nn, .int .i64 0, .slice none 0 0, .slice none 0 0, .slice none 0 0] 26 (0, 0)) := (HK.out.bel.block gi (by rw [HK.out.hB]; exact hgi)).trans HGI.out.1
        have HL : Hid (q < B2 ∧ q + 1 < gi ∧ gi < B2) := by
          have a1 := HK.out.hB
          have a2 := HK.out.sz
          have a3 := HGI.out.2
          refine ⟨by omega, a3, by omega⟩
        have HQL : Hid (wL.heap[q]? = some zo ∧ Below q w wL) := by rw [hwL]; exact ⟨HK.out.rh.hq, HK.out.rh.bel⟩
        have bk := ip.box6 hbox
        obtain ⟨bk0, bk1, bk2, bk3, bk4, bk5⟩ := bk
        have fk2 : wr.frozen? ⟨gi, 2, none⟩ = false := ip.fr6 hbox 2
        have hnl : NL gl cn T wr := fun i hi => by rw [HK.out.row.cellAt i (by omega)]; exact nmL_at T 2 cn i hi
        have cn0 : wr.cell? ⟨gl, 0, none⟩ = some (.int .i64 cp) := by rw [hcp]; exact hnl 0 (by omega)
        have g0 : (0 : Int) < (cn : Int) := by omega
        have K1 : Hid (KR T nn cp gl cn gi B2 wL 0 0 (.slice none 0 0) (.slice none 0 0) (.slice none 0 0) (.slice none 0 0) (wr.setCell ⟨gi, 2, none⟩ (.int .i64 cp))) := by
          have a1 := HK.out.hB
          refine ⟨heap_setCell_same wr gi 2 _ 26 (.int .i64 cp) hbox, hnl.kept (heap_setCell_other wr ⟨gi, 2, none⟩ gl _ (by show gl ≠ gi; omega)), by rw [show enc (WK T 0) = [] from List.eq_nil_of_length_eq_zero (by simp [enc, WK_len])]; exact World.ownsRow_nil _ _ _ _, by rw [show enc (VK T 0) = [] from List.eq_nil_of_length_eq_zero (by simp [enc, VK_len])]; exact World.ownsRow_nil _ _ _ _, fun x hx => (by cases hx), ?_, by rw [hB2]; simp [World.setCell], HL.out.2.2, by omega, by omega⟩
          rw [hwL]
          exact ⟨rfl, rfl, rfl, by simp [World.setCell], fun k hk hne => heap_setCell_other wr ⟨gi, 2, none⟩ k _ (by show k ≠ gi; exact hne)⟩
        have HPK2 : Hid (PR T = .ok 1 nn cp (WK T nn) (VK T nn) []) := Lib.hid (by rw [HPR.out, hcp]; unfold PGknap; rw [WK_k, VK_k])
        have HWL := Lib.hid hwL
        have HB2 := Lib.hid hB2
        have HCP := Lib.hid hcp
        clear HK hgl1 hgl2 hgi hbox HGI hwL hB2 hcp hnl HPR hc1
        go_wp2
        clear bk0 bk1 bk2 bk3 bk4 bk5 fk2 cn0 g0 c0
        go_loopw [17] (fun i wr => ∃ (k : Nat) (vW vV : Value), k ≤ nn ∧ i = .int .i64 k ∧ Hid (KR T nn cp gl cn gi B2 wL k k vW vV vW vV wr)) (fun i _ => nn - (intOf i).toNat)
        case atStart => exact ⟨0, _, _, by omega, rfl, K1⟩
        case round =>
          clear K1
          obtain ⟨k, vW, vV, hk, rfl, HK⟩ := hrel
          by_cases hlt : k < nn
          · have q3 : (k : Int) < (nn : Int) := by omega
            go_wp2
            rename_i K0 aK
            refine ref55 T nn k cp h3 hlt gl cn cl gi B2 HCN.out wL vW vV wr HK.out _ _ _ _ _ _ _ _ _ _ _ _ _ _ _ _ _ _ _ _ _ _ _ _ _ _ _ _ _ _ _ _ _ _ _ _ _ _ _ _ _ _ _ _ _ _ _ _ _ _ _ _ _ _ _ _ _ _ _ _ _ _ _ _ _ _ _ _ _ _ _ _ _ _ _ _ _ _ _ _ _ _ _ _ _ _ _ _ _ _ _ _ _ _ _ _ _ _ _ _ _ _ _ _ _ _ _ _ _ _ _ _ _ _ _ _ _ _ _ _ _ _ _ _ _ _ _ _ _ _ _ _ _ _ _ _ _ _ _ _ _ _ _ _ _ _ _ _ _ _ _ _ _ _ _ _ _ _ _ _ _ _ _ _ _ _ _ _ _ _ _ _ _ _ _ _ _ _ _ _ _ _ _ _ _ _ _ _ _ _ _ _ _ _ _ _ _ _ _ _ _ _ _ _ _ _ _ _ _ _ _ _ _ _ _ _ _ _ _ _ _ _ _ _ _ _ _ _ _ _ _ _ _ _ _ _ _ _ _ _ _ _ _ _ _ _ _ _ _ _ _ _ _ _ _ _ _ _ _ _ _ _ _ _ _ _ _ _ _ _ _ _ _ _ _ _ _ _ _ _ _ _ _ _ _ _ _ _ _ _ _ _ _ _ _ _ _ _ _ _ _ (fun c a d v w h => by cases d <;> exact h) ?_
            intro g5 cap5 g6 cap6 W q222 q223 q224 q225 q226 q227 q228 q229 q230 q231 q232 q233 q234 q235 q236 q237 q238 q239 q240 q241 q242 q243 hR
            refine aK _ _ ?_
            clear aK
            have HKd := Lib.hid hR
            clear hR HK
            go_wp2
            go_roundw
            case rel => exact ⟨k + 1, _, _, by omega, by go_num, HKd⟩
            case measure => simp [intOf]; omega
          · obtain rfl : k = nn := by omega
            obtain ⟨gw, cw, rfl, hgw1, hgw2⟩ := HK.out.rw.form (by omega)
            obtain ⟨gv, cv, rfl, hgv1, hgv2⟩ := HK.out.rv.form (by omega)
            have hq := (HK.out.up.block q HL.out.1 (by have := HL.out.2.1; omega)).trans HQL.out.1
            unfold zo at hq
            have HBQ : Hid (Below q w wr) := ⟨HK.out.up.os.trans HQL.out.2.os, HK.out.up.tape.trans HQL.out.2.tape, HK.out.up.output.trans HQL.out.2.output, Nat.le_trans HQL.out.2.size HK.out.up.size, fun i hi => by have := HL.out; exact (HK.out.up.block i (by omega) (by omega)).trans (HQL.out.2.block i hi)⟩
            obtain ⟨y0, y1, y2, y3, y4, y5⟩ := ip.box6 HK.out.box
            obtain ⟨z0, z1, z2, z3, z4, z5⟩ := ip.box6 hq
            have zf := ip.fr6 hq
            have f0 := zf 0; have f1 := zf 1; have f2 := zf 2; have f3 := zf 3; have f4 := zf 4; have f5 := zf 5
            have R6 := Lib.hid (ip.box6 (ip.six hq (.int .i64 1) (.int .i64 k) (.int .i64 cp) (.slice (some ⟨gw, 0, none⟩) k cw) (.slice (some ⟨gv, 0, none⟩) k cv) (.slice none 0 0)))
            have FN : Hid (PaR w (PR T) (.returned (.tuple #[.agg #[.int .i64 1, .int .i64 k, .int .i64 cp, .slice (some ⟨gw, 0, none⟩) k cw, .slice (some ⟨gv, 0, none⟩) k cv, .slice none 0 0], .int .i64 0, .int .i64 0])) ((((((wr.setCell ⟨q, 0, none⟩ (.int .i64 1)).setCell ⟨q, 1, none⟩ (.int .i64 k)).setCell ⟨q, 2, none⟩ (.int .i64 cp)).setCell ⟨q, 3, none⟩ (.slice (some ⟨gw, 0, none⟩) k cw)).setCell ⟨q, 4, none⟩ (.slice (some ⟨gv, 0, none⟩) k cv)).setCell ⟨q, 5, none⟩ (.slice none 0 0))) := k_outR HK.out HL.out.1 HBQ.out HQ.out HPK2.out _ _ _ _ _ _
            clear HK hq zf hgw1 hgw2 hgv1 hgv2 HBQ
            go_wp2
            obtain ⟨r0, r1, r2, r3, r4, r5⟩ := R6.out
            exact bodyPost_ret (v := .tuple #[.agg #[.int .i64 1, .int .i64 k, .int .i64 cp, .slice (some ⟨gw, 0, none⟩) k cw, .slice (some ⟨gv, 0, none⟩) k cv, .slice none 0 0], .int .i64 0, .int .i64 0]) (by simp [results, Try.results8, go_sem, r0, r1, r2, r3, r4, r5]) rfl FN.out
      · have HPR : Hid (PR T = .bad t.at_ 7) := by
          have := HPT.out HK.out.ok (by rw [← hpk, ← HTK.out]; exact k3)
          rw [← hpk, ← HTK.out] at this
          exact this
        have d3 : (t.kind != 3) = true := by simpa using k3
        obtain ⟨av, hav⟩ : ∃ av, av = t.at_ := ⟨_, rfl⟩
        rw [← hav] at c3 HPR
        have b1 := HK.out.rh.hq; have b2 := HK.out.rh.hz; have b3 := HK.out.rh.gq; have b4 := HK.out.rh.bel
        have b0 : q ≠ q + 1 := by omega
        have mp : pk < T.length := by omega
        generalize t.kind = kd at *
        clear HPG HPT k3 HTK hpk HPK c1 c2 HK hav
        have HZ := Lib.hid (ret_zero wr q (q + 1) g (pk * 4 + 3) av (by assumption) (by assumption) (by assumption) (by assumption) (by assumption) (by assumption))
        go_wp2
        refine wp_region_held_drew (S := ZS (q + 1) g (pk * 4 + 3) av) (by kernel_rfl) HZ.out.1 (fun hHeld => ?_)
        obtain ⟨-, HY, ⟨z0, z1, z2, z3, z4, z5⟩, ⟨f0, f1, f2, f3, f4, f5⟩, R6, BZ⟩ := HZ.out
        have HYh := Lib.hid HY
        unfold z6 at R6
        have R6h := Lib.hid R6
        have BZh := Lib.hid BZ
        clear HZ HY R6 BZ
        generalize World.drew _ = W3 at *
        refine wpAnyH_take (i := 0) (v := ?va16) (by rw [List.getElem?_toArray]; rfl) (by kernel_rfl) (by kernel_rfl) (by kernel_rfl) ?qa16 (Or.inl ⟨by rfl, ?ya16⟩) hHeld ?ra16
        case qa16 => exact fun _ _ _ h => h
        case ya16 => (intro wz hSw; obtain ⟨⟨s0, s1, s2, s3, s4, s5⟩, s6⟩ := hSw; go_simp; try (with_reducible rfl))
        simp only [Act.put, List.setIfInBounds_toArray, List.set_cons_zero, List.set_cons_succ]
        refine wpAnyH_take (i := 1) (v := ?va17) (by rw [List.getElem?_toArray]; rfl) (by kernel_rfl) (by kernel_rfl) (by kernel_rfl) ?qa17 (Or.inl ⟨by rfl, ?ya17⟩) hHeld ?ra17
        case qa17 => exact fun _ _ _ h => h
        case ya17 => (intro wz hSw; obtain ⟨⟨s0, s1, s2, s3, s4, s5⟩, s6⟩ := hSw; go_simp; try (with_reducible rfl))
        simp only [Act.put, List.setIfInBounds_toArray, List.set_cons_zero, List.set_cons_succ]
        refine wpAnyH_take (i := 2) (v := ?va18) (by rw [List.getElem?_toArray]; rfl) (by kernel_rfl) (by kernel_rfl) (by kernel_rfl) ?qa18 (Or.inl ⟨by rfl, ?ya18⟩) hHeld ?ra18
        case qa18 => exact fun _ _ _ h => h
        case ya18 => (intro wz hSw; obtain ⟨⟨s0, s1, s2, s3, s4, s5⟩, s6⟩ := hSw; go_simp; try (with_reducible rfl))
        simp only [Act.put, List.setIfInBounds_toArray, List.set_cons_zero, List.set_cons_succ]
        refine wpAnyH_take (i := 3) (v := ?va19) (by rw [List.getElem?_toArray]; rfl) (by kernel_rfl) (by kernel_rfl) (by kernel_rfl) ?qa19 (Or.inl ⟨by rfl, ?ya19⟩) hHeld ?ra19
        case qa19 => exact fun _ _ _ h => h
        case ya19 => (intro wz hSw; obtain ⟨⟨s0, s1, s2, s3, s4, s5⟩, s6⟩ := hSw; go_simp; try (with_reducible rfl))
        simp only [Act.put, List.setIfInBounds_toArray, List.set_cons_zero, List.set_cons_succ]
        refine wpAnyH_take (i := 4) (v := ?va20) (by rw [List.getElem?_toArray]; rfl) (by kernel_rfl) (by kernel_rfl) (by kernel_rfl) ?qa20 (Or.inl ⟨by rfl, ?ya20⟩) hHeld ?ra20
        case qa20 => exact fun _ _ _ h => h
        case ya20 => (intro wz hSw; obtain ⟨⟨s0, s1, s2, s3, s4, s5⟩, s6⟩ := hSw; go_simp; try (with_reducible rfl))
        simp only [Act.put, List.setIfInBounds_toArray, List.set_cons_zero, List.set_cons_succ]
        refine wpAnyH_take (i := 5) (v := ?va21) (by rw [List.getElem?_toArray]; rfl) (by kernel_rfl) (by kernel_rfl) (by kernel_rfl) ?qa21 (Or.inl ⟨by rfl, ?ya21⟩) hHeld ?ra21
        case qa21 => exact fun _ _ _ h => h
        case ya21 => (intro wz hSw; obtain ⟨⟨s0, s1, s2, s3, s4, s5⟩, s6⟩ := hSw; go_simp; try (with_reducible rfl))
        simp only [Act.put, List.setIfInBounds_toArray, List.set_cons_zero, List.set_cons_succ]
        refine wpAnyH_ready (rs := [6]) (by kernel_rfl) (by simp) ?_
        refine AllReadyH.cons (by rw [List.getElem?_toArray]; rfl) (fun K hK => ?_) AllReadyH.nil
        clear hHeld
        go_simp
        refine hK.out _ _ HYh.out (fun hHeld => ?_)
        clear hK K HYh
        refine wpAnyH_take (i := 7) (v := ?va22) (by rw [List.getElem?_toArray]; rfl) (by kernel_rfl) (by kernel_rfl) (by kernel_rfl) ?qa22 (Or.inl ⟨by rfl, ?ya22⟩) hHeld ?ra22
        case qa22 => exact fun _ _ _ h => h
        case ya22 => (intro wz hSw; clear hSw; go_simp; try (with_reducible rfl))
        simp only [Act.put, List.setIfInBounds_toArray, List.set_cons_zero, List.set_cons_succ]
        refine wpAnyH_take (i := 8) (v := ?va23) (by rw [List.getElem?_toArray]; rfl) (by kernel_rfl) (by kernel_rfl) (by kernel_rfl) ?qa23 (Or.inl ⟨by rfl, ?ya23⟩) hHeld ?ra23
        case qa23 => exact fun _ _ _ h => h
        case ya23 => (intro wz hSw; clear hSw; go_simp; try (with_reducible rfl))
        simp only [Act.put, List.setIfInBounds_toArray, List.set_cons_zero, List.set_cons_succ]
        refine wpAnyH_done (by kernel_rfl) ?_ _
        clear hHeld
        go_wp2
        obtain ⟨r0, r1, r2, r3, r4, r5⟩ := R6h.out
        exact bodyPost_ret (v := .tuple #[.agg #[.int .i64 0, .int .i64 0, .int .i64 0, .slice none 0 0, .slice none 0 0, .slice none 0 0], .int .i64 av, .int .i64 7]) (by simp [results, Try.results8, go_sem, r0, r1, r2, r3, r4, r5]) rfl (show PaR w (PR T) _ _ from by rw [HPR.out]; exact ⟨rfl, by rw [← HQ.out]; exact BZh.out⟩)
end Go.Proofs.Ytjojdpohifdghaa

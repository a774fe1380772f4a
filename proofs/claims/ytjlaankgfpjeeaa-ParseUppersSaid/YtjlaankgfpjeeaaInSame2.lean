/-
  What the reference's Same answers of problems that lie in memory.
-/
import Derived.Test.YtjlaankgfpjeeaaInSame
import Derived.Deep.RegionHeld3
namespace Go.Proofs.Ytjlaankgfpjeeaa.ip
open Go.RowKit
set_option linter.unusedVariables false

theorem rows_eq {l m : List (List Int)} (hl : l.length = m.length) (h : ∀ j, j < l.length → l[j]?.getD [] = m[j]?.getD []) : l = m := by
  refine List.ext_getElem hl (fun j h1 h2 => ?_)
  have e := h j h1
  rw [List.getElem?_eq_getElem h1, List.getElem?_eq_getElem h2] at e
  exact e
theorem two_boxes {w w2 : World} {v0 v1 v2 v3 v4 v5 u0 u1 u2 u3 u4 u5 : Value} (hb : Below ((w.alloc (.cells #[v0, v1, v2, v3, v4, v5] 25)).alloc (.cells #[u0, u1, u2, u3, u4, u5] 25)).heap.size ((w.alloc (.cells #[v0, v1, v2, v3, v4, v5] 25)).alloc (.cells #[u0, u1, u2, u3, u4, u5] 25)) w2) :
    (w2.cell? ⟨w.heap.size, 0, none⟩ = some v0 ∧ w2.cell? ⟨w.heap.size, 1, none⟩ = some v1 ∧ w2.cell? ⟨w.heap.size, 2, none⟩ = some v2 ∧ w2.cell? ⟨w.heap.size, 3, none⟩ = some v3 ∧ w2.cell? ⟨w.heap.size, 4, none⟩ = some v4 ∧ w2.cell? ⟨w.heap.size, 5, none⟩ = some v5) ∧
    (w2.cell? ⟨w.heap.size + 1, 0, none⟩ = some u0 ∧ w2.cell? ⟨w.heap.size + 1, 1, none⟩ = some u1 ∧ w2.cell? ⟨w.heap.size + 1, 2, none⟩ = some u2 ∧ w2.cell? ⟨w.heap.size + 1, 3, none⟩ = some u3 ∧ w2.cell? ⟨w.heap.size + 1, 4, none⟩ = some u4 ∧ w2.cell? ⟨w.heap.size + 1, 5, none⟩ = some u5) := by
  have q : w2.heap[w.heap.size]? = some (.cells #[v0, v1, v2, v3, v4, v5] 25 (0, 0)) := (hb.block _ (by simp; omega)).trans (heap_alloc2_old w _ _)
  have p : w2.heap[w.heap.size + 1]? = some (.cells #[u0, u1, u2, u3, u4, u5] 25 (0, 0)) := (hb.block _ (by simp)).trans (heap_alloc2_new w _ _)
  exact ⟨⟨cell_of_row _ _ 0 _ _ _ q, cell_of_row _ _ 1 _ _ _ q, cell_of_row _ _ 2 _ _ _ q, cell_of_row _ _ 3 _ _ _ q, cell_of_row _ _ 4 _ _ _ q, cell_of_row _ _ 5 _ _ _ q⟩, ⟨cell_of_row _ _ 0 _ _ _ p, cell_of_row _ _ 1 _ _ _ p, cell_of_row _ _ 2 _ _ _ p, cell_of_row _ _ 3 _ _ _ p, cell_of_row _ _ 4 _ _ _ p, cell_of_row _ _ 5 _ _ _ p⟩⟩
theorem bl_undr2 {X w : World} (h : Below X.drew.heap.size X.drew w) : Below X.heap.size X w := ⟨h.os, h.tape, h.output, h.size, h.block⟩
theorem four_keep {W W1 : World} {p1 p2 p3 p4 n1 n2 n3 n4 : Nat} {z1 z2 z3 z4 : Value} (hb : Below W.heap.size W W1) (h1 : W.cell? ⟨p1, n1, none⟩ = some z1) (h2 : W.cell? ⟨p2, n2, none⟩ = some z2) (h3 : W.cell? ⟨p3, n3, none⟩ = some z3) (h4 : W.cell? ⟨p4, n4, none⟩ = some z4) :
    W1.cell? ⟨p1, n1, none⟩ = some z1 ∧ W1.cell? ⟨p2, n2, none⟩ = some z2 ∧ W1.cell? ⟨p3, n3, none⟩ = some z3 ∧ W1.cell? ⟨p4, n4, none⟩ = some z4 :=
  ⟨(hb.cell (p := ⟨p1, n1, none⟩) (lt_cell h1)).trans h1, (hb.cell (p := ⟨p2, n2, none⟩) (lt_cell h2)).trans h2, (hb.cell (p := ⟨p3, n3, none⟩) (lt_cell h3)).trans h3, (hb.cell (p := ⟨p4, n4, none⟩) (lt_cell h4)).trans h4⟩
set_option maxHeartbeats 4000000 in
theorem same_any (b : Bool) (K N C K' N' C' : Int) (wl vl wl' vl' : List Int) (cl cl' : List (List Int)) (hb : b = true ↔ K = K' ∧ N = N' ∧ C = C' ∧ wl = wl' ∧ vl = vl' ∧ cl = cl') (wa va ca wa' va' ca' : Option Addr) (wc vc cc wc' vc' cc' : Nat) (w : World)
    (i1 : Ints w wa wl) (i2 : Ints w va vl) (i3 : Rws w ca cl) (j1 : Ints w wa' wl') (j2 : Ints w va' vl') (j3 : Rws w ca' cl') (l1 : wl.length ≤ 1000) (l2 : vl.length ≤ 1000) (l3 : cl.length ≤ 1000) (m1 : wl'.length ≤ 1000) (m2 : vl'.length ≤ 1000) :
    Calls Try.prog 9 #[.agg #[.int .i64 K, .int .i64 N, .int .i64 C, .slice wa wl.length wc, .slice va vl.length vc, .slice ca cl.length cc], .agg #[.int .i64 K', .int .i64 N', .int .i64 C', .slice wa' wl'.length wc', .slice va' vl'.length vc', .slice ca' cl'.length cc']] w fun e w' => e = .returned (.bool b) ∧ Below w.heap.size w w' := by
  have HB := Lib.hid hb
  clear hb
  by_cases h1 : K = K'
  · subst h1
    by_cases h2 : N = N'
    · subst h2
      by_cases h3 : C = C'
      · subst h3
        have bA : Below w.heap.size w ((w.alloc (.cells #[.int .i64 K, .int .i64 N, .int .i64 C, .slice wa wl.length wc, .slice va vl.length vc, .slice ca cl.length cc] 25)).alloc (.cells #[.int .i64 K, .int .i64 N, .int .i64 C, .slice wa' wl'.length wc', .slice va' vl'.length vc', .slice ca' cl'.length cc'] 25)) := bl_al (bl_al (Below.refl _ _) _) _
        have BA := Lib.hid bA
        have I1 := Lib.hid i1; have I2 := Lib.hid i2; have I3 := Lib.hid i3; have J1 := Lib.hid j1; have J2 := Lib.hid j2; have J3 := Lib.hid j3
        clear i1 i2 i3 j1 j2 j3 bA
        by_cases h4 : wl = wl'
        · have C1 := Lib.hid (lists_any true wl wl' ⟨fun _ => h4, fun _ => rfl⟩ wa wa' wc wc' _ (I1.out.keep BA.out) (J1.out.keep BA.out) l1 m1)
          by_cases h5 : vl = vl'
          · have C2 := Lib.hid (fun W (hW : Below w.heap.size w W) => lists_any true vl vl' ⟨fun _ => h5, fun _ => rfl⟩ va va' vc vc' W (I2.out.keep hW) (J2.out.keep hW) l2 m2)
            have H4 := Lib.hid h4
            have H5 := Lib.hid h5
            clear h4 h5
            by_cases h6 : cl.length = cl'.length
            · have H6 := Lib.hid h6
              rw [← h6]
              rw [← h6] at C1 BA
              clear h6
              go_enter Try.func9, Try.ntmps9
              go_wp2_with fail
              refine C1.out.mono ?_; rintro e w2 ⟨rfl, hb2⟩
              have B2 := Lib.hid (bl_tr BA.out hb2)
              have D2 := Lib.hid hb2
              clear hb2 C1
              obtain ⟨⟨x0, x1, x2, x3, x4, x5⟩, ⟨x6, x7, x8, x9, xa, xb⟩⟩ := two_boxes D2.out
              go_wp2_with fail
              refine (C2.out _ B2.out).mono ?_; rintro e w3 ⟨rfl, hb3⟩
              have B3 := Lib.hid (bl_tr B2.out hb3)
              have D3 := Lib.hid (bl_tr D2.out hb3)
              clear hb3 C2 x0 x1 x2 x3 x4 x5 x6 x7 x8 x9 xa xb B2 D2
              obtain ⟨⟨y0, y1, y2, y3, y4, y5⟩, ⟨y6, y7, y8, y9, ya, yb⟩⟩ := two_boxes D3.out
              go_wp2
              clear y0 y1 y2 y3 y4 y5 y6 y7 y8 y9 ya yb
              go_loopw [5] (fun i wr => ∃ k : Nat, k ≤ cl.length ∧ i = .int .i64 k ∧ Hid (∀ j, j < k → cl[j]?.getD [] = cl'[j]?.getD []) ∧ Hid (Below ((w.alloc (.cells #[.int .i64 K, .int .i64 N, .int .i64 C, .slice wa wl.length wc, .slice va vl.length vc, .slice ca cl.length cc] 25)).alloc (.cells #[.int .i64 K, .int .i64 N, .int .i64 C, .slice wa' wl'.length wc', .slice va' vl'.length vc', .slice ca' cl.length cc'] 25)).heap.size ((w.alloc (.cells #[.int .i64 K, .int .i64 N, .int .i64 C, .slice wa wl.length wc, .slice va vl.length vc, .slice ca cl.length cc] 25)).alloc (.cells #[.int .i64 K, .int .i64 N, .int .i64 C, .slice wa' wl'.length wc', .slice va' vl'.length vc', .slice ca' cl.length cc'] 25)) wr) ∧ Hid (Below w.heap.size w wr)) (fun i _ => cl.length - (intOf i).toNat)
              case atStart => exact ⟨0, by omega, rfl, fun j hj => absurd hj (by omega), D3, B3⟩
              case round =>
                clear D3 B3
                obtain ⟨k, hk, rfl, HS, DR, BR⟩ := hrel
                obtain ⟨⟨y0, y1, y2, y3, y4, y5⟩, ⟨y6, y7, y8, y9, ya, yb⟩⟩ := two_boxes DR.out
                by_cases hlt : k < cl.length
                · obtain ⟨b1, o1, a1, c1, rfl, hb1, hc1, hr1, hl1⟩ := (I3.out.keep BR.out) k hlt
                  obtain ⟨b2, o2, a2, c2, rfl, hb2, hc2, hr2, hl2⟩ := (J3.out.keep BR.out) k (by rw [← H6.out]; exact hlt)
                  have kb : (0 : Int) ≤ (k : Int) ∧ (k : Int) < (cl.length : Int) := by omega
                  obtain ⟨row, hrw⟩ : ∃ g, cl[k]?.getD [] = g := ⟨_, rfl⟩
                  obtain ⟨row', hrw'⟩ : ∃ g, cl'[k]?.getD [] = g := ⟨_, rfl⟩
                  have G1 := Lib.hid hrw
                  have G2 := Lib.hid hrw'
                  rw [hrw] at hc1 hr1 hl1
                  rw [hrw'] at hc2 hr2 hl2
                  have R1 := Lib.hid hr1
                  have R2 := Lib.hid hr2
                  clear hrw hrw' hr1 hr2 y0 y1 y2 y3 y4 y6 y7 y8 y9 ya
                  have bw1 : w.heap.size < wr.heap.size := lt_cell y5
                  by_cases hxy : row = row'
                  · have HF : Hid (∀ j, j < k + 1 → cl[j]?.getD [] = cl'[j]?.getD []) := fun j hj => by
                      rcases Nat.lt_or_ge j k with h | h
                      · exact HS.out j h
                      · obtain rfl : j = k := by omega
                        rw [G1.out, G2.out]; exact hxy
                    have CR := Lib.hid (lists_any true row row' ⟨fun _ => hxy, fun _ => rfl⟩ a1 a2 c1 c2 wr.drew R1.out R2.out hl1 hl2)
                    clear hxy
                    go_wp2
                    go_region_held3 (fun w' => w'.cell? ⟨w.heap.size, 5, none⟩ = some (.slice (some ⟨b1, o1, none⟩) cl.length cc) ∧ w'.cell? ⟨b1, o1 + k, none⟩ = some (.slice a1 row.length c1) ∧ w'.cell? ⟨w.heap.size + 1, 5, none⟩ = some (.slice (some ⟨b2, o2, none⟩) cl.length cc') ∧ w'.cell? ⟨b2, o2 + k, none⟩ = some (.slice a2 row'.length c2)) (first | exact ⟨y5, hc1, yb, hc2⟩ | exact SK.out)
                      (first | (go_at_call 16; refine CR.out.mono ?_; rintro e x ⟨rfl, hbx⟩; have BX := Lib.hid (bl_undr2 hbx); have SK := Lib.hid (four_keep BX.out y5 hc1 yb hc2); clear hbx))
                    all_goals go_wp2
                    all_goals
                      go_roundw
                      case rel => exact ⟨k + 1, by omega, by go_num, HF, bl_tr DR.out BX.out, bl_tr BR.out BX.out⟩
                      case measure => simp [intOf]; omega
                  · have hbf : b = false := by
                      cases b
                      · rfl
                      · exact absurd (by rw [← G1.out, ← G2.out, (HB.out.1 rfl).2.2.2.2.2]) hxy
                    subst hbf
                    have CR := Lib.hid (lists_any false row row' ⟨fun h => (by cases h), fun h => absurd h hxy⟩ a1 a2 c1 c2 wr.drew R1.out R2.out hl1 hl2)
                    clear hxy
                    go_wp2
                    go_region_held3 (fun w' => w'.cell? ⟨w.heap.size, 5, none⟩ = some (.slice (some ⟨b1, o1, none⟩) cl.length cc) ∧ w'.cell? ⟨b1, o1 + k, none⟩ = some (.slice a1 row.length c1) ∧ w'.cell? ⟨w.heap.size + 1, 5, none⟩ = some (.slice (some ⟨b2, o2, none⟩) cl.length cc') ∧ w'.cell? ⟨b2, o2 + k, none⟩ = some (.slice a2 row'.length c2)) (first | exact ⟨y5, hc1, yb, hc2⟩ | exact SK.out)
                      (first | (go_at_call 16; refine CR.out.mono ?_; rintro e x ⟨rfl, hbx⟩; have BX := Lib.hid (bl_undr2 hbx); have SK := Lib.hid (four_keep BX.out y5 hc1 yb hc2); clear hbx))
                    all_goals go_wp2
                    all_goals
                      go_ret
                      exact ⟨rfl, bl_tr BR.out BX.out⟩
                · have hbt : b = true := HB.out.2 ⟨(by first | exact rfl | trivial), (by first | exact rfl | trivial), (by first | exact rfl | trivial), H4.out, H5.out, rows_eq H6.out (fun j hj => HS.out j (by omega))⟩
                  subst hbt
                  go_wp2
                  go_ret
                  exact ⟨rfl, BR.out⟩
            · have hbf : b = false := by
                cases b
                · rfl
                · exact absurd (by rw [(HB.out.1 rfl).2.2.2.2.2]) h6
              subst hbf
              have h6' : ¬ (cl.length : Int) = (cl'.length : Int) := by omega
              go_enter Try.func9, Try.ntmps9
              go_wp2_with fail
              refine C1.out.mono ?_; rintro e w2 ⟨rfl, hb2⟩
              have B2 := Lib.hid (bl_tr BA.out hb2)
              have D2 := Lib.hid hb2
              clear hb2 C1
              obtain ⟨⟨x0, x1, x2, x3, x4, x5⟩, ⟨x6, x7, x8, x9, xa, xb⟩⟩ := two_boxes D2.out
              go_wp2_with fail
              refine (C2.out _ B2.out).mono ?_; rintro e w3 ⟨rfl, hb3⟩
              have B3 := Lib.hid (bl_tr B2.out hb3)
              have D3 := Lib.hid (bl_tr D2.out hb3)
              clear hb3 C2 x0 x1 x2 x3 x4 x5 x6 x7 x8 x9 xa xb B2 D2
              obtain ⟨⟨y0, y1, y2, y3, y4, y5⟩, ⟨y6, y7, y8, y9, ya, yb⟩⟩ := two_boxes D3.out
              go_wp2
              go_ret
              exact ⟨rfl, B3.out⟩
          · have hbf : b = false := by
              cases b
              · rfl
              · exact absurd (HB.out.1 rfl).2.2.2.2.1 h5
            subst hbf
            have C2 := Lib.hid (fun W (hW : Below w.heap.size w W) => lists_any false vl vl' ⟨fun h => (by cases h), fun h => absurd h h5⟩ va va' vc vc' W (I2.out.keep hW) (J2.out.keep hW) l2 m2)
            clear h4 h5
            go_enter Try.func9, Try.ntmps9
            go_wp2_with fail
            refine C1.out.mono ?_; rintro e w2 ⟨rfl, hb2⟩
            have B2 := Lib.hid (bl_tr BA.out hb2)
            have D2 := Lib.hid hb2
            clear hb2 C1
            obtain ⟨⟨x0, x1, x2, x3, x4, x5⟩, ⟨x6, x7, x8, x9, xa, xb⟩⟩ := two_boxes D2.out
            go_wp2_with fail
            refine (C2.out _ B2.out).mono ?_; rintro e w3 ⟨rfl, hb3⟩
            go_wp2
            go_ret
            exact ⟨rfl, bl_tr B2.out hb3⟩
        · have hbf : b = false := by
            cases b
            · rfl
            · exact absurd (HB.out.1 rfl).2.2.2.1 h4
          subst hbf
          have C1 := Lib.hid (lists_any false wl wl' ⟨fun h => (by cases h), fun h => absurd h h4⟩ wa wa' wc wc' _ (I1.out.keep BA.out) (J1.out.keep BA.out) l1 m1)
          clear h4
          go_enter Try.func9, Try.ntmps9
          go_wp2_with fail
          refine C1.out.mono ?_; rintro e w2 ⟨rfl, hb2⟩
          go_wp2
          go_ret
          exact ⟨rfl, bl_tr BA.out hb2⟩
      · have h3' := h3
        have hbf : b = false := by
          cases b
          · rfl
          · exact absurd (HB.out.1 rfl).2.2.1 h3
        subst hbf
        go_enter Try.func9, Try.ntmps9
        go_wp2
        go_ret
        exact ⟨rfl, bl_al (bl_al (Below.refl _ _) _) _⟩
    · have hbf : b = false := by
        cases b
        · rfl
        · exact absurd (HB.out.1 rfl).2.1 h2
      subst hbf
      go_enter Try.func9, Try.ntmps9
      go_wp2
      go_ret
      exact ⟨rfl, bl_al (bl_al (Below.refl _ _) _) _⟩
  · have hbf : b = false := by
      cases b
      · rfl
      · exact absurd (HB.out.1 rfl).1 h1
    subst hbf
    go_enter Try.func9, Try.ntmps9
    go_wp2
    go_ret
    exact ⟨rfl, bl_al (bl_al (Below.refl _ _) _) _⟩
end Go.Proofs.Ytjlaankgfpjeeaa.ip

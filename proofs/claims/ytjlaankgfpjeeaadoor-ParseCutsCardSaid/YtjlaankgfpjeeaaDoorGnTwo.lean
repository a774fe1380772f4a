import Derived.Test.YtjlaankgfpjeeaaDoorGnOne
import Derived.Deep.QuietTactic
import Derived.BigQuiet
import Derived.Deep.RegionHeld3

/-
  What the reference's same and Same answer of lists and problems that lie in memory.
-/
namespace Go.Proofs.YtjlaankgfpjeeaaDoor.gn
open Go.RowKit
set_option linter.unusedVariables false
def Ints (W : World) (a : Option Addr) (l : List Int) : Prop := ∀ j, j < l.length → ∃ b o, a = some ⟨b, o, none⟩ ∧ b < W.heap.size ∧ W.cell? ⟨b, o + j, none⟩ = some (.int .i64 (l[j]?.getD 0))
def Rws (W : World) (a : Option Addr) (l : List (List Int)) : Prop :=
  ∀ j, j < l.length → ∃ b o aj cj, a = some ⟨b, o, none⟩ ∧ b < W.heap.size ∧ W.cell? ⟨b, o + j, none⟩ = some (.slice aj (l[j]?.getD []).length cj) ∧ Ints W aj (l[j]?.getD []) ∧ (l[j]?.getD []).length ≤ 1000
theorem Ints.keep {W W1 : World} {a : Option Addr} {l : List Int} (h : Ints W a l) (hb : Below W.heap.size W W1) : Ints W1 a l := fun j hj => by
  obtain ⟨b, o, h1, h2, h3⟩ := h j hj
  exact ⟨b, o, h1, Nat.lt_of_lt_of_le h2 hb.size, (hb.cell (p := ⟨b, o + j, none⟩) h2).trans h3⟩
theorem Rws.keep {W W1 : World} {a : Option Addr} {l : List (List Int)} (h : Rws W a l) (hb : Below W.heap.size W W1) : Rws W1 a l := fun j hj => by
  obtain ⟨b, o, aj, cj, h1, h2, h3, h4, h5⟩ := h j hj
  exact ⟨b, o, aj, cj, h1, Nat.lt_of_lt_of_le h2 hb.size, (hb.cell (p := ⟨b, o + j, none⟩) h2).trans h3, h4.keep hb, h5⟩
theorem bl_dn {B : Nat} {a w : World} (h : Below B a w) (n : Nat) : Below B a (w.drewN n) := ⟨h.os, h.tape, h.output, h.size, h.block⟩
theorem bl_tr {a w w1 : World} (h : Below a.heap.size a w) (k : Below w.heap.size w w1) : Below a.heap.size a w1 := h.trans (k.mono h.size)
theorem lt_cell {w : World} {b j : Nat} {v : Value} (h : w.cell? ⟨b, j, none⟩ = some v) : b < w.heap.size := by
  rcases Nat.lt_or_ge b w.heap.size with hlt | hge
  · exact hlt
  · unfold World.cell? at h
    rw [Array.getElem?_eq_none hge] at h
    cases h

theorem list_eq {l m : List Int} (hl : l.length = m.length) (h : ∀ j, j < l.length → l[j]?.getD 0 = m[j]?.getD 0) : l = m := by
  refine List.ext_getElem hl (fun j h1 h2 => ?_)
  have e := h j h1
  rw [List.getElem?_eq_getElem h1, List.getElem?_eq_getElem h2] at e
  exact e
set_option maxHeartbeats 1000000 in
theorem lists_any (b : Bool) (l m : List Int) (hb : b = true ↔ l = m) (la ma : Option Addr) (lc mc : Nat) (w : World) (hl : Ints w la l) (hm : Ints w ma m) (l1 : l.length ≤ 1000) (l2 : m.length ≤ 1000) :
    Calls Tryd.prog 28 #[.slice la l.length lc, .slice ma m.length mc] w fun e w' => e = .returned (.bool b) ∧ Below w.heap.size w w' := by
  have HL := Lib.hid hl
  have HM := Lib.hid hm
  have HB := Lib.hid hb
  clear hl hm hb
  by_cases hlen : l.length = m.length
  · rw [← hlen]
    have HE := Lib.hid hlen
    clear hlen l2
    go_enter Tryd.func28, Tryd.ntmps28
    go_wp2
    go_loopw [5] (fun i wr => ∃ k : Nat, k ≤ l.length ∧ i = .int .i64 k ∧ Hid (∀ j, j < k → l[j]?.getD 0 = m[j]?.getD 0) ∧ ∃ n, wr = w.drewN n) (fun i _ => l.length - (intOf i).toNat)
    case atStart => exact ⟨0, by omega, rfl, fun j hj => absurd hj (by omega), 0, rfl⟩
    case round =>
      obtain ⟨k, hk, rfl, HS, n, rfl⟩ := hrel
      by_cases hlt : k < l.length
      · obtain ⟨b1, o1, rfl, hb1, hc1⟩ := HL.out k hlt
        obtain ⟨b2, o2, rfl, hb2, hc2⟩ := HM.out k (by rw [← HE.out]; exact hlt)
        have kb : (0 : Int) ≤ (k : Int) ∧ (k : Int) < (l.length : Int) := by omega
        by_cases hxy : l[k]?.getD 0 = m[k]?.getD 0
        · have HF : Hid (∀ j, j < k + 1 → l[j]?.getD 0 = m[j]?.getD 0) := fun j hj => by
            rcases Nat.lt_or_ge j k with h | h
            · exact HS.out j h
            · obtain rfl : j = k := by omega
              exact hxy
          generalize l[k]?.getD 0 = x at *
          generalize m[k]?.getD 0 = y at *
          subst hxy
          go_wp2
          go_quiet (fail)
          all_goals go_wp2
          all_goals
            go_roundw
            case rel => exact ⟨k + 1, by omega, by go_num, HF, _, rfl⟩
            case measure => simp [intOf]; omega
        · have hbf : b = false := by
            cases b
            · rfl
            · exact absurd (by rw [HB.out.1 rfl]) hxy
          subst hbf
          generalize l[k]?.getD 0 = x at *
          generalize m[k]?.getD 0 = y at *
          go_wp2
          go_quiet (fail)
          all_goals go_wp2
          all_goals
            go_ret
            exact ⟨rfl, bl_dn (bl_dn (Below.refl _ _) _) _⟩
      · have hbt : b = true := HB.out.2 (list_eq HE.out (fun j hj => HS.out j (by omega)))
        subst hbt
        go_wp2
        go_ret
        exact ⟨rfl, bl_dn (Below.refl _ _) _⟩
  · have hbf : b = false := by
      cases b
      · rfl
      · exact absurd (by rw [HB.out.1 rfl]) hlen
    subst hbf
    have hne : ¬ (l.length : Int) = (m.length : Int) := by omega
    go_enter Tryd.func28, Tryd.ntmps28
    go_wp2
    go_ret
    exact ⟨rfl, Below.refl _ _⟩

theorem rows_eq {l m : List (List Int)} (hl : l.length = m.length) (h : ∀ j, j < l.length → l[j]?.getD [] = m[j]?.getD []) : l = m := by
  refine List.ext_getElem hl (fun j h1 h2 => ?_)
  have e := h j h1
  rw [List.getElem?_eq_getElem h1, List.getElem?_eq_getElem h2] at e
  exact e
theorem two_boxes {w w2 : World} {v0 v1 v2 v3 v4 v5 u0 u1 u2 u3 u4 u5 : Value} (hb : Below ((w.alloc (.cells #[v0, v1, v2, v3, v4, v5] 25)).alloc (.cells #[u0, u1, u2, u3, u4, u5] 25)).heap.size ((w.alloc (.cells #[v0, v1, v2, v3, v4, v5] 25)).alloc (.cells #[u0, u1, u2, u3, u4, u5] 25)) w2) :
    (w2.cell? ⟨w.heap.size, 0, none⟩ = some v0 ∧ w2.cell? ⟨w.heap.size, 1, none⟩ = some v1 ∧ w2.cell? ⟨w.heap.size, 2, none⟩ = some v2 ∧ w2.cell? ⟨w.heap.size, 3, none⟩ = some v3 ∧ w2.cell? ⟨w.heap.size, 4, none⟩ = some v4 ∧ w2.cell? ⟨w.heap.size, 5, none⟩ = some v5) ∧
    (w2.cell? ⟨w.heap.size + 1, 0, none⟩ = some u0 ∧ w2.cell? ⟨w.heap.size + 1, 1, none⟩ = some u1 ∧ w2.cell? ⟨w.heap.size + 1, 2, none⟩ = some u2 ∧ w2.cell? ⟨w.heap.size + 1, 3, none⟩ = some u3 ∧ w2.cell? ⟨w.heap.size + 1, 4, none⟩ = some u4 ∧ w2.cell? ⟨w.heap.size + 1, 5, none⟩ = some u5) := by
  have q : w2.heap[w.heap.size]? = some (.cells #[v0, v1, v2, v3, v4, v5] 25 (0, 0)) := (hb.block _ (by simp; omega)).trans (heap_alloc2_old w _ _)
  have p : w2.heap[w.heap.size + 1]? = some (.cells #[u0, u1, u2, u3, u4, u5] 25 (0, 0)) := (hb.block _ (by simp)).trans (heap_alloc2_new w _ _)
  exact ⟨⟨cell_of_row _ _ 0 _ _ _ q, cell_of_row _ _ 1 _ _ _ q, cell_of_row _ _ 2 _ _ _ q, cell_of_row _ _ 3 _ _ _ q, cell_of_row _ _ 4 _ _ _ q, cell_of_row _ _ 5 _ _ _ q⟩, ⟨cell_of_row _ _ 0 _ _ _ p, cell_of_row _ _ 1 _ _ _ p, cell_of_row _ _ 2 _ _ _ p, cell_of_row _ _ 3 _ _ _ p, cell_of_row _ _ 4 _ _ _ p, cell_of_row _ _ 5 _ _ _ p⟩⟩
theorem bl_undr2 {X w : World} (h : Below X.drew.heap.size X.drew w) : Below X.heap.size X w := ⟨h.os, h.tape, h.output, h.size, h.block⟩
theorem four_keep {W W1 : World} {p1 p2 p3 p4 n1 n2 n3 n4 : Nat} {z1 z2 z3 z4 : Value} (hb : Below W.heap.size W W1) (h1 : W.cell? ⟨p1, n1, none⟩ = some z1) (h2 : W.cell? ⟨p2, n2, none⟩ = some z2) (h3 : W.cell? ⟨p3, n3, none⟩ = some z3) (h4 : W.cell? ⟨p4, n4, none⟩ = some z4) :
    W1.cell? ⟨p1, n1, none⟩ = some z1 ∧ W1.cell? ⟨p2, n2, none⟩ = some z2 ∧ W1.cell? ⟨p3, n3, none⟩ = some z3 ∧ W1.cell? ⟨p4, n4, none⟩ = some z4 :=
  ⟨(hb.cell (p := ⟨p1, n1, none⟩) (lt_cell h1)).trans h1, (hb.cell (p := ⟨p2, n2, none⟩) (lt_cell h2)).trans h2, (hb.cell (p := ⟨p3, n3, none⟩) (lt_cell h3)).trans h3, (hb.cell (p := ⟨p4, n4, none⟩) (lt_cell h4)).trans h4⟩
set_option maxHeartbeats 4000000 in
theorem same_any (b : Bool) (K N C K' N' C' : Int) (wl vl wl' vl' : List Int) (cl cl' : List (List Int)) (hb : b = true ↔ K = K' ∧ N = N' ∧ C = C' ∧ wl = wl' ∧ vl = vl' ∧ cl = cl') (wa va ca wa' va' ca' : Option Addr) (wc vc cc wc' vc' cc' : Nat) (w : World)
    (i1 : Ints w wa wl) (i2 : Ints w va vl) (i3 : Rws w ca cl) (j1 : Ints w wa' wl') (j2 : Ints w va' vl') (j3 : Rws w ca' cl') (l1 : wl.length ≤ 1000) (l2 : vl.length ≤ 1000) (l3 : cl.length ≤ 1000) (m1 : wl'.length ≤ 1000) (m2 : vl'.length ≤ 1000) :
    Calls Tryd.prog 12 #[.agg #[.int .i64 K, .int .i64 N, .int .i64 C, .slice wa wl.length wc, .slice va vl.length vc, .slice ca cl.length cc], .agg #[.int .i64 K', .int .i64 N', .int .i64 C', .slice wa' wl'.length wc', .slice va' vl'.length vc', .slice ca' cl'.length cc']] w fun e w' => e = .returned (.bool b) ∧ Below w.heap.size w w' := by
  have HB := Lib.hid hb
  clear hb
  by_cases h1 : K = K'
  · subst h1
    by_cases h2 : N = N'
    · subst h2
      by_cases h3 : C = C'
      · subst h3
        have bA : Below w.heap.size w ((w.alloc (.cells #[.int .i64 K, .int .i64 N, .int .i64 C, .slice wa wl.length wc, .slice va vl.length vc, .slice ca cl.length cc] 25)).alloc (.cells #[.int .i64 K, .int .i64 N, .int .i64 C, .slice wa' wl'.length wc', .slice va' vl'.length vc', .slice ca' cl'.length cc'] 25)) := bl_al (bl_al (Below.refl _ _) _) _
        have BA := Lib.hid bA
        have I1 := Lib.hid i1; have I2 := Lib.hid i2; have I3 := Lib.hid i3; have J1 := Lib.hid j1; have J2 := Lib.hid j2; have J3 := Lib.hid j3
        clear i1 i2 i3 j1 j2 j3 bA
        by_cases h4 : wl = wl'
        · have C1 := Lib.hid (lists_any true wl wl' ⟨fun _ => h4, fun _ => rfl⟩ wa wa' wc wc' _ (I1.out.keep BA.out) (J1.out.keep BA.out) l1 m1)
          by_cases h5 : vl = vl'
          · have C2 := Lib.hid (fun W (hW : Below w.heap.size w W) => lists_any true vl vl' ⟨fun _ => h5, fun _ => rfl⟩ va va' vc vc' W (I2.out.keep hW) (J2.out.keep hW) l2 m2)
            have H4 := Lib.hid h4
            have H5 := Lib.hid h5
            clear h4 h5
            by_cases h6 : cl.length = cl'.length
            · have H6 := Lib.hid h6
              rw [← h6]
              rw [← h6] at C1 BA
              clear h6
              go_enter Tryd.func12, Tryd.ntmps12
              go_wp2_with fail
              refine C1.out.mono ?_; rintro e w2 ⟨rfl, hb2⟩
              have B2 := Lib.hid (bl_tr BA.out hb2)
              have D2 := Lib.hid hb2
              clear hb2 C1
              obtain ⟨⟨x0, x1, x2, x3, x4, x5⟩, ⟨x6, x7, x8, x9, xa, xb⟩⟩ := two_boxes D2.out
              go_wp2_with fail
              refine (C2.out _ B2.out).mono ?_; rintro e w3 ⟨rfl, hb3⟩
              have B3 := Lib.hid (bl_tr B2.out hb3)
              have D3 := Lib.hid (bl_tr D2.out hb3)
              clear hb3 C2 x0 x1 x2 x3 x4 x5 x6 x7 x8 x9 xa xb B2 D2
              obtain ⟨⟨y0, y1, y2, y3, y4, y5⟩, ⟨y6, y7, y8, y9, ya, yb⟩⟩ := two_boxes D3.out
              go_wp2
              clear y0 y1 y2 y3 y4 y5 y6 y7 y8 y9 ya yb
              go_loopw [5] (fun i wr => ∃ k : Nat, k ≤ cl.length ∧ i = .int .i64 k ∧ Hid (∀ j, j < k → cl[j]?.getD [] = cl'[j]?.getD []) ∧ Hid (Below ((w.alloc (.cells #[.int .i64 K, .int .i64 N, .int .i64 C, .slice wa wl.length wc, .slice va vl.length vc, .slice ca cl.length cc] 25)).alloc (.cells #[.int .i64 K, .int .i64 N, .int .i64 C, .slice wa' wl'.length wc', .slice va' vl'.length vc', .slice ca' cl.length cc'] 25)).heap.size ((w.alloc (.cells #[.int .i64 K, .int .i64 N, .int .i64 C, .slice wa wl.length wc, .slice va vl.length vc, .slice ca cl.length cc] 25)).alloc (.cells #[.int .i64 K, .int .i64 N, .int .i64 C, .slice wa' wl'.length wc', .slice va' vl'.length vc', .slice ca' cl.length cc'] 25)) wr) ∧ Hid (Below w.heap.size w wr)) (fun i _ => cl.length - (intOf i).toNat)
              case atStart => exact ⟨0, by omega, rfl, fun j hj => absurd hj (by omega), D3, B3⟩
              case round =>
                clear D3 B3
                obtain ⟨k, hk, rfl, HS, DR, BR⟩ := hrel
                obtain ⟨⟨y0, y1, y2, y3, y4, y5⟩, ⟨y6, y7, y8, y9, ya, yb⟩⟩ := two_boxes DR.out
                by_cases hlt : k < cl.length
                · obtain ⟨b1, o1, a1, c1, rfl, hb1, hc1, hr1, hl1⟩ := (I3.out.keep BR.out) k hlt
                  obtain ⟨b2, o2, a2, c2, rfl, hb2, hc2, hr2, hl2⟩ := (J3.out.keep BR.out) k (by rw [← H6.out]; exact hlt)
                  have kb : (0 : Int) ≤ (k : Int) ∧ (k : Int) < (cl.length : Int) := by omega
                  obtain ⟨row, hrw⟩ : ∃ g, cl[k]?.getD [] = g := ⟨_, rfl⟩
                  obtain ⟨row', hrw'⟩ : ∃ g, cl'[k]?.getD [] = g := ⟨_, rfl⟩
                  have G1 := Lib.hid hrw
                  have G2 := Lib.hid hrw'
                  rw [hrw] at hc1 hr1 hl1
                  rw [hrw'] at hc2 hr2 hl2
                  have R1 := Lib.hid hr1
                  have R2 := Lib.hid hr2
                  clear hrw hrw' hr1 hr2 y0 y1 y2 y3 y4 y6 y7 y8 y9 ya
                  have bw1 : w.heap.size < wr.heap.size := lt_cell y5
                  by_cases hxy : row = row'
                  · have HF : Hid (∀ j, j < k + 1 → cl[j]?.getD [] = cl'[j]?.getD []) := fun j hj => by
                      rcases Nat.lt_or_ge j k with h | h
                      · exact HS.out j h
                      · obtain rfl : j = k := by omega
                        rw [G1.out, G2.out]; exact hxy
                    have CR := Lib.hid (lists_any true row row' ⟨fun _ => hxy, fun _ => rfl⟩ a1 a2 c1 c2 wr.drew R1.out R2.out hl1 hl2)
                    clear hxy
                    go_wp2
                    go_region_held3 (fun w' => w'.cell? ⟨w.heap.size, 5, none⟩ = some (.slice (some ⟨b1, o1, none⟩) cl.length cc) ∧ w'.cell? ⟨b1, o1 + k, none⟩ = some (.slice a1 row.length c1) ∧ w'.cell? ⟨w.heap.size + 1, 5, none⟩ = some (.slice (some ⟨b2, o2, none⟩) cl.length cc') ∧ w'.cell? ⟨b2, o2 + k, none⟩ = some (.slice a2 row'.length c2)) (first | exact ⟨y5, hc1, yb, hc2⟩ | exact SK.out)
                      (first | (go_at_call 28; refine CR.out.mono ?_; rintro e x ⟨rfl, hbx⟩; have BX := Lib.hid (bl_undr2 hbx); have SK := Lib.hid (four_keep BX.out y5 hc1 yb hc2); clear hbx))
                    all_goals go_wp2
                    all_goals
                      go_roundw
                      case rel => exact ⟨k + 1, by omega, by go_num, HF, bl_tr DR.out BX.out, bl_tr BR.out BX.out⟩
                      case measure => simp [intOf]; omega
                  · have hbf : b = false := by
                      cases b
                      · rfl
                      · exact absurd (by rw [← G1.out, ← G2.out, (HB.out.1 rfl).2.2.2.2.2]) hxy
                    subst hbf
                    have CR := Lib.hid (lists_any false row row' ⟨fun h => (by cases h), fun h => absurd h hxy⟩ a1 a2 c1 c2 wr.drew R1.out R2.out hl1 hl2)
                    clear hxy
                    go_wp2
                    go_region_held3 (fun w' => w'.cell? ⟨w.heap.size, 5, none⟩ = some (.slice (some ⟨b1, o1, none⟩) cl.length cc) ∧ w'.cell? ⟨b1, o1 + k, none⟩ = some (.slice a1 row.length c1) ∧ w'.cell? ⟨w.heap.size + 1, 5, none⟩ = some (.slice (some ⟨b2, o2, none⟩) cl.length cc') ∧ w'.cell? ⟨b2, o2 + k, none⟩ = some (.slice a2 row'.length c2)) (first | exact ⟨y5, hc1, yb, hc2⟩ | exact SK.out)
                      (first | (go_at_call 28; refine CR.out.mono ?_; rintro e x ⟨rfl, hbx⟩; have BX := Lib.hid (bl_undr2 hbx); have SK := Lib.hid (four_keep BX.out y5 hc1 yb hc2); clear hbx))
                    all_goals go_wp2
                    all_goals
                      go_ret
                      exact ⟨rfl, bl_tr BR.out BX.out⟩
                · have hbt : b = true := HB.out.2 ⟨(by first | exact rfl | trivial), (by first | exact rfl | trivial), (by first | exact rfl | trivial), H4.out, H5.out, rows_eq H6.out (fun j hj => HS.out j (by omega))⟩
                  subst hbt
                  go_wp2
                  go_ret
                  exact ⟨rfl, BR.out⟩
            · have hbf : b = false := by
                cases b
                · rfl
                · exact absurd (by rw [(HB.out.1 rfl).2.2.2.2.2]) h6
              subst hbf
              have h6' : ¬ (cl.length : Int) = (cl'.length : Int) := by omega
              go_enter Tryd.func12, Tryd.ntmps12
              go_wp2_with fail
              refine C1.out.mono ?_; rintro e w2 ⟨rfl, hb2⟩
              have B2 := Lib.hid (bl_tr BA.out hb2)
              have D2 := Lib.hid hb2
              clear hb2 C1
              obtain ⟨⟨x0, x1, x2, x3, x4, x5⟩, ⟨x6, x7, x8, x9, xa, xb⟩⟩ := two_boxes D2.out
              go_wp2_with fail
              refine (C2.out _ B2.out).mono ?_; rintro e w3 ⟨rfl, hb3⟩
              have B3 := Lib.hid (bl_tr B2.out hb3)
              have D3 := Lib.hid (bl_tr D2.out hb3)
              clear hb3 C2 x0 x1 x2 x3 x4 x5 x6 x7 x8 x9 xa xb B2 D2
              obtain ⟨⟨y0, y1, y2, y3, y4, y5⟩, ⟨y6, y7, y8, y9, ya, yb⟩⟩ := two_boxes D3.out
              go_wp2
              go_ret
              exact ⟨rfl, B3.out⟩
          · have hbf : b = false := by
              cases b
              · rfl
              · exact absurd (HB.out.1 rfl).2.2.2.2.1 h5
            subst hbf
            have C2 := Lib.hid (fun W (hW : Below w.heap.size w W) => lists_any false vl vl' ⟨fun h => (by cases h), fun h => absurd h h5⟩ va va' vc vc' W (I2.out.keep hW) (J2.out.keep hW) l2 m2)
            clear h4 h5
            go_enter Tryd.func12, Tryd.ntmps12
            go_wp2_with fail
            refine C1.out.mono ?_; rintro e w2 ⟨rfl, hb2⟩
            have B2 := Lib.hid (bl_tr BA.out hb2)
            have D2 := Lib.hid hb2
            clear hb2 C1
            obtain ⟨⟨x0, x1, x2, x3, x4, x5⟩, ⟨x6, x7, x8, x9, xa, xb⟩⟩ := two_boxes D2.out
            go_wp2_with fail
            refine (C2.out _ B2.out).mono ?_; rintro e w3 ⟨rfl, hb3⟩
            go_wp2
            go_ret
            exact ⟨rfl, bl_tr B2.out hb3⟩
        · have hbf : b = false := by
            cases b
            · rfl
            · exact absurd (HB.out.1 rfl).2.2.2.1 h4
          subst hbf
          have C1 := Lib.hid (lists_any false wl wl' ⟨fun h => (by cases h), fun h => absurd h h4⟩ wa wa' wc wc' _ (I1.out.keep BA.out) (J1.out.keep BA.out) l1 m1)
          clear h4
          go_enter Tryd.func12, Tryd.ntmps12
          go_wp2_with fail
          refine C1.out.mono ?_; rintro e w2 ⟨rfl, hb2⟩
          go_wp2
          go_ret
          exact ⟨rfl, bl_tr BA.out hb2⟩
      · have h3' := h3
        have hbf : b = false := by
          cases b
          · rfl
          · exact absurd (HB.out.1 rfl).2.2.1 h3
        subst hbf
        go_enter Tryd.func12, Tryd.ntmps12
        go_wp2
        go_ret
        exact ⟨rfl, bl_al (bl_al (Below.refl _ _) _) _⟩
    · have hbf : b = false := by
        cases b
        · rfl
        · exact absurd (HB.out.1 rfl).2.1 h2
      subst hbf
      go_enter Tryd.func12, Tryd.ntmps12
      go_wp2
      go_ret
      exact ⟨rfl, bl_al (bl_al (Below.refl _ _) _) _⟩
  · have hbf : b = false := by
      cases b
      · rfl
      · exact absurd (HB.out.1 rfl).1 h1
    subst hbf
    go_enter Tryd.func12, Tryd.ntmps12
    go_wp2
    go_ret
    exact ⟨rfl, bl_al (bl_al (Below.refl _ _) _) _⟩
end Go.Proofs.YtjlaankgfpjeeaaDoor.gn

/-
  What gen.Make answers.
-/
namespace Go.Proofs.YtjlaankgfpjeeaaDoor.gn
open Go.RowKit
set_option linter.unusedVariables false
/-- an answer of Make -/
def MkP (er K n C : Int) (wl vl : List Int) (cl : List (List Int)) (w : World) (e : Ending) (w' : World) : Prop := ∃ (wa va ca : Option Addr) (wc vc cc : Nat),
  e = .returned (.tuple #[.agg #[.int .i64 K, .int .i64 n, .int .i64 C, .slice wa wl.length wc, .slice va vl.length vc, .slice ca cl.length cc], .int .i64 er]) ∧ Ints w' wa wl ∧ Ints w' va vl ∧ Rws w' ca cl ∧ Below w.heap.size w w'
theorem mk_none (er : Int) {w w' : World} (hb : Below w.heap.size w w') : MkP er 0 0 0 [] [] [] w (.returned (.tuple #[.agg #[.int .i64 0, .int .i64 0, .int .i64 0, .slice none 0 0, .slice none 0 0, .slice none 0 0], .int .i64 er])) w' :=
  ⟨none, none, none, 0, 0, 0, rfl, fun j hj => by simp at hj, fun j hj => by simp at hj, fun j hj => by simp at hj, hb⟩
theorem make_kind (K n m s : Int) (h1 : K ≠ 1) (h2 : K ≠ 2) (h3 : K ≠ 3) (w : World) : Calls Tryd.prog 14 #[.int .i64 K, .int .i64 n, .int .i64 m, .int .u64 s] w (MkP 14 0 0 0 [] [] [] w) := by
  have a1 : (K == 1) = false := by simpa using h1
  have a2 : (K != 1) = true := by simpa using h1
  have a3 : (K != 2) = true := by simpa using h2
  have a4 : (K != 3) = true := by simpa using h3
  have B := Lib.hid (mk_none 14 (bl_al (Below.refl w.heap.size w) (.cells #[.int .i64 0, .int .i64 0, .int .i64 0, .slice none 0 0, .slice none 0 0, .slice none 0 0] 25)))
  clear h1 h2 h3
  go_enter Tryd.func14, Tryd.ntmps14
  go_wp2
  exact bodyPost_ret (v := .tuple #[.agg #[.int .i64 0, .int .i64 0, .int .i64 0, .slice none 0 0, .slice none 0 0, .slice none 0 0], .int .i64 14]) (by simp [results, Tryd.results14, go_sem]) rfl B.out
theorem make_arg1 (n m s : Int) (h : n < 1 ∨ m < 0 ∨ 2147483647 < m) (w : World) : Calls Tryd.prog 14 #[.int .i64 1, .int .i64 n, .int .i64 m, .int .u64 s] w (MkP 1 0 0 0 [] [] [] w) := by
  have B := Lib.hid (mk_none 1 (bl_al (Below.refl w.heap.size w) (.cells #[.int .i64 0, .int .i64 0, .int .i64 0, .slice none 0 0, .slice none 0 0, .slice none 0 0] 25)))
  by_cases hn : n < 1
  · clear h
    go_enter Tryd.func14, Tryd.ntmps14
    go_wp2
    exact bodyPost_ret (v := .tuple #[.agg #[.int .i64 0, .int .i64 0, .int .i64 0, .slice none 0 0, .slice none 0 0, .slice none 0 0], .int .i64 1]) (by simp [results, Tryd.results14, go_sem]) rfl B.out
  · have hm : m < 0 ∨ 2147483647 < m := by omega
    have H := Lib.hid (fun W => entry_no m hm W)
    clear h hm
    go_enter Tryd.func14, Tryd.ntmps14
    go_wp2_with fail
    refine (H.out _).mono ?_; rintro e w1 ⟨rfl, rfl⟩
    go_wp2
    exact bodyPost_ret (v := .tuple #[.agg #[.int .i64 0, .int .i64 0, .int .i64 0, .slice none 0 0, .slice none 0 0, .slice none 0 0], .int .i64 1]) (by simp [results, Tryd.results14, go_sem]) rfl B.out
theorem make_big1 (n m s : Int) (h : 64 < n) (h0 : 0 ≤ m) (h1 : m ≤ 2147483647) (w : World) : Calls Tryd.prog 14 #[.int .i64 1, .int .i64 n, .int .i64 m, .int .u64 s] w (MkP 5 0 0 0 [] [] [] w) := by
  have B := Lib.hid (mk_none 5 (bl_al (Below.refl w.heap.size w) (.cells #[.int .i64 0, .int .i64 0, .int .i64 0, .slice none 0 0, .slice none 0 0, .slice none 0 0] 25)))
  have H := Lib.hid (fun W => entry_yes m h0 h1 W)
  have hn : ¬ n < 1 := by omega
  go_enter Tryd.func14, Tryd.ntmps14
  go_wp2_with fail
  refine (H.out _).mono ?_; rintro e w1 ⟨rfl, rfl⟩
  go_wp2
  exact bodyPost_ret (v := .tuple #[.agg #[.int .i64 0, .int .i64 0, .int .i64 0, .slice none 0 0, .slice none 0 0, .slice none 0 0], .int .i64 5]) (by simp [results, Tryd.results14, go_sem]) rfl B.out
theorem make_arg2 (n m s : Int) (h : n < 1 ∨ m < 0 ∨ 2147483647 < m) (w : World) : Calls Tryd.prog 14 #[.int .i64 2, .int .i64 n, .int .i64 m, .int .u64 s] w (MkP 1 0 0 0 [] [] [] w) := by
  have B := Lib.hid (mk_none 1 (bl_al (Below.refl w.heap.size w) (.cells #[.int .i64 0, .int .i64 0, .int .i64 0, .slice none 0 0, .slice none 0 0, .slice none 0 0] 25)))
  by_cases hn : n < 1
  · clear h
    go_enter Tryd.func14, Tryd.ntmps14
    go_wp2
    exact bodyPost_ret (v := .tuple #[.agg #[.int .i64 0, .int .i64 0, .int .i64 0, .slice none 0 0, .slice none 0 0, .slice none 0 0], .int .i64 1]) (by simp [results, Tryd.results14, go_sem]) rfl B.out
  · have hm : m < 0 ∨ 2147483647 < m := by omega
    have H := Lib.hid (fun W => entry_no m hm W)
    clear h hm
    go_enter Tryd.func14, Tryd.ntmps14
    go_wp2_with fail
    refine (H.out _).mono ?_; rintro e w1 ⟨rfl, rfl⟩
    go_wp2
    exact bodyPost_ret (v := .tuple #[.agg #[.int .i64 0, .int .i64 0, .int .i64 0, .slice none 0 0, .slice none 0 0, .slice none 0 0], .int .i64 1]) (by simp [results, Tryd.results14, go_sem]) rfl B.out
theorem make_big2 (n m s : Int) (h : 24 < n) (h0 : 0 ≤ m) (h1 : m ≤ 2147483647) (w : World) : Calls Tryd.prog 14 #[.int .i64 2, .int .i64 n, .int .i64 m, .int .u64 s] w (MkP 5 0 0 0 [] [] [] w) := by
  have B := Lib.hid (mk_none 5 (bl_al (Below.refl w.heap.size w) (.cells #[.int .i64 0, .int .i64 0, .int .i64 0, .slice none 0 0, .slice none 0 0, .slice none 0 0] 25)))
  have H := Lib.hid (fun W => entry_yes m h0 h1 W)
  have hn : ¬ n < 1 := by omega
  go_enter Tryd.func14, Tryd.ntmps14
  go_wp2_with fail
  refine (H.out _).mono ?_; rintro e w1 ⟨rfl, rfl⟩
  go_wp2
  exact bodyPost_ret (v := .tuple #[.agg #[.int .i64 0, .int .i64 0, .int .i64 0, .slice none 0 0, .slice none 0 0, .slice none 0 0], .int .i64 5]) (by simp [results, Tryd.results14, go_sem]) rfl B.out
theorem make_arg3 (n m s : Int) (h : n < 1 ∨ m < 0 ∨ 2147483647 < m) (w : World) : Calls Tryd.prog 14 #[.int .i64 3, .int .i64 n, .int .i64 m, .int .u64 s] w (MkP 1 0 0 0 [] [] [] w) := by
  have B := Lib.hid (mk_none 1 (bl_al (Below.refl w.heap.size w) (.cells #[.int .i64 0, .int .i64 0, .int .i64 0, .slice none 0 0, .slice none 0 0, .slice none 0 0] 25)))
  by_cases hn : n < 1
  · clear h
    go_enter Tryd.func14, Tryd.ntmps14
    go_wp2
    exact bodyPost_ret (v := .tuple #[.agg #[.int .i64 0, .int .i64 0, .int .i64 0, .slice none 0 0, .slice none 0 0, .slice none 0 0], .int .i64 1]) (by simp [results, Tryd.results14, go_sem]) rfl B.out
  · have hm : m < 0 ∨ 2147483647 < m := by omega
    have H := Lib.hid (fun W => entry_no m hm W)
    clear h hm
    go_enter Tryd.func14, Tryd.ntmps14
    go_wp2_with fail
    refine (H.out _).mono ?_; rintro e w1 ⟨rfl, rfl⟩
    go_wp2
    exact bodyPost_ret (v := .tuple #[.agg #[.int .i64 0, .int .i64 0, .int .i64 0, .slice none 0 0, .slice none 0 0, .slice none 0 0], .int .i64 1]) (by simp [results, Tryd.results14, go_sem]) rfl B.out
theorem make_big3 (n m s : Int) (h : 24 < n) (h0 : 0 ≤ m) (h1 : m ≤ 2147483647) (w : World) : Calls Tryd.prog 14 #[.int .i64 3, .int .i64 n, .int .i64 m, .int .u64 s] w (MkP 5 0 0 0 [] [] [] w) := by
  have B := Lib.hid (mk_none 5 (bl_al (Below.refl w.heap.size w) (.cells #[.int .i64 0, .int .i64 0, .int .i64 0, .slice none 0 0, .slice none 0 0, .slice none 0 0] 25)))
  have H := Lib.hid (fun W => entry_yes m h0 h1 W)
  have hn : ¬ n < 1 := by omega
  go_enter Tryd.func14, Tryd.ntmps14
  go_wp2_with fail
  refine (H.out _).mono ?_; rintro e w1 ⟨rfl, rfl⟩
  go_wp2
  exact bodyPost_ret (v := .tuple #[.agg #[.int .i64 0, .int .i64 0, .int .i64 0, .slice none 0 0, .slice none 0 0, .slice none 0 0], .int .i64 5]) (by simp [results, Tryd.results14, go_sem]) rfl B.out
theorem ints_row {W : World} {B n g c : Nat} {l : List Int} (hl : l.length = n) (h : W.ownsRow B 3 1 (.slice (some ⟨g, 0, none⟩) n c) n (enc l)) : Ints W (some ⟨g, 0, none⟩) l := fun j hj => by
  refine ⟨g, 0, rfl, (h.lt g rfl).2, ?_⟩
  rw [Nat.zero_add, h.cellAt j (by omega)]
  unfold enc
  rw [List.getElem?_map, List.getElem?_eq_getElem hj]; rfl
theorem below_of {w X W : World} {g : Nat} (hb : Below w.heap.size w X) (h : X.grownBy W (some g)) (hg : w.heap.size ≤ g) : Below w.heap.size w W :=
  ⟨h.os.trans hb.os, h.tape.trans hb.tape, h.output.trans hb.output, Nat.le_trans hb.size h.size, fun i hi => (h.block i (Nat.lt_of_lt_of_le hi hb.size) (fun e => by injection e with e; omega)).trans (hb.block i hi)⟩
set_option maxHeartbeats 1000000 in
theorem make_knap (nn : Nat) (n1 : 1 ≤ nn) (n2 : nn ≤ 64) (m s : Int) (h0 : 0 ≤ m) (h1 : m ≤ 2147483647) (w : World) : Calls Tryd.prog 14 #[.int .i64 1, .int .i64 nn, .int .i64 m, .int .u64 s] w (MkP 0 1 nn (capOf m s nn) (WL m s nn) (VL m s nn) [] w) := by
  have H := Lib.hid (fun W => entry_yes m h0 h1 W)
  have hn : ¬ (nn : Int) < 1 := by omega
  have hd : ((w.alloc (.cells #[.int .i64 0, .int .i64 0, .int .i64 0, .slice none 0 0, .slice none 0 0, .slice none 0 0] 25)).alloc (.cells #[.int .u64 s, .int .i64 m] 70)).heap[w.heap.size + 1]? = some (.cells #[.int .u64 (sd s 0), .int .i64 m] 70 (0, 0)) := by rw [sd_zero]; exact heap_alloc2_new w _ _
  have hz : ((w.alloc (.cells #[.int .i64 0, .int .i64 0, .int .i64 0, .slice none 0 0, .slice none 0 0, .slice none 0 0] 25)).alloc (.cells #[.int .u64 s, .int .i64 m] 70)).heap[w.heap.size]? = some (.cells #[.int .i64 0, .int .i64 0, .int .i64 0, .slice none 0 0, .slice none 0 0, .slice none 0 0] 25 (0, 0)) := heap_alloc2_old w _ _
  have hsz : ((w.alloc (.cells #[.int .i64 0, .int .i64 0, .int .i64 0, .slice none 0 0, .slice none 0 0, .slice none 0 0] 25)).alloc (.cells #[.int .u64 s, .int .i64 m] 70)).heap.size = w.heap.size + 1 + 1 := by simp
  have hb : Below w.heap.size w ((w.alloc (.cells #[.int .i64 0, .int .i64 0, .int .i64 0, .slice none 0 0, .slice none 0 0, .slice none 0 0] 25)).alloc (.cells #[.int .u64 s, .int .i64 m] 70)) := bl_al (bl_al (Below.refl w.heap.size w) _) _
  generalize hX : ((w.alloc (.cells #[.int .i64 0, .int .i64 0, .int .i64 0, .slice none 0 0, .slice none 0 0, .slice none 0 0] 25)).alloc (.cells #[.int .u64 s, .int .i64 m] 70)) = X at *
  have KK := Lib.hid (ksack_any m s h0 h1 nn n1 n2 (w.heap.size + 1) X hd)
  have HX := Lib.hid hX
  have HZ := Lib.hid hz
  have HB := Lib.hid hb
  clear hd hz hb hX h0 h1
  go_enter Tryd.func14, Tryd.ntmps14
  go_wp2_with fail
  refine (H.out _).mono ?_; rintro e w1 ⟨rfl, rfl⟩
  go_wp2_with fail
  rw [HX.out]
  refine KK.out.mono ?_; rintro e w1 ⟨gw, cw, gv, cv, rfl, rw, rv, gone⟩
  have q := (gone.block w.heap.size (by omega) (fun e => by injection e with e; omega)).trans HZ.out
  have bw := Lib.hid (below_of HB.out gone (by omega))
  have RW := Lib.hid rw
  have RV := Lib.hid rv
  clear rw rv gone KK H HX HZ HB
  have FIN : Hid (MkP 0 1 nn (capOf m s nn) (WL m s nn) (VL m s nn) [] w (.returned (.tuple #[.agg #[.int .i64 1, .int .i64 nn, .int .i64 (capOf m s nn), .slice (some ⟨gw, 0, none⟩) nn cw, .slice (some ⟨gv, 0, none⟩) nn cv, .slice none 0 0], .int .i64 0])) ((((((w1.setCell ⟨w.heap.size, 0, none⟩ (.int .i64 1)).setCell ⟨w.heap.size, 1, none⟩ (.int .i64 nn)).setCell ⟨w.heap.size, 2, none⟩ (.int .i64 (capOf m s nn))).setCell ⟨w.heap.size, 3, none⟩ (.slice (some ⟨gw, 0, none⟩) nn cw)).setCell ⟨w.heap.size, 4, none⟩ (.slice (some ⟨gv, 0, none⟩) nn cv)).setCell ⟨w.heap.size, 5, none⟩ (.slice none 0 0))) := by
    have hs : ∀ (j : Nat) (v : Value) (Y : World), Below w.heap.size w Y → Below w.heap.size w (Y.setCell ⟨w.heap.size, j, none⟩ v) := fun j v Y h => h.setCell (p := ⟨w.heap.size, j, none⟩) (Nat.le_refl _) v
    have hr : ∀ (j : Nat) (v : Value) (Y : World) (g c : Nat) (xs : List Value), Y.ownsRow X.heap.size 3 1 (.slice (some ⟨g, 0, none⟩) nn c) nn xs → (Y.setCell ⟨w.heap.size, j, none⟩ v).ownsRow X.heap.size 3 1 (.slice (some ⟨g, 0, none⟩) nn c) nn xs := fun j v Y g c xs h => Go.RowKit.ownsRow_setCell_below h (by show w.heap.size < X.heap.size; omega) v
    refine ⟨some ⟨gw, 0, none⟩, some ⟨gv, 0, none⟩, none, cw, cv, 0, by rw [WL_len, VL_len]; rfl, ints_row (WL_len _ _ _) (hr _ _ _ _ _ _ (hr _ _ _ _ _ _ (hr _ _ _ _ _ _ (hr _ _ _ _ _ _ (hr _ _ _ _ _ _ (hr _ _ _ _ _ _ RW.out)))))), ints_row (VL_len _ _ _) (hr _ _ _ _ _ _ (hr _ _ _ _ _ _ (hr _ _ _ _ _ _ (hr _ _ _ _ _ _ (hr _ _ _ _ _ _ (hr _ _ _ _ _ _ RV.out)))))), fun j hj => by simp at hj, hs _ _ _ (hs _ _ _ (hs _ _ _ (hs _ _ _ (hs _ _ _ (hs _ _ _ bw.out)))))⟩
  clear bw RW RV
  obtain ⟨y0, y1, y2, y3, y4, y5⟩ := box6 q
  have ff : ∀ j, w1.frozen? ⟨w.heap.size, j, none⟩ = false := fun j => frozen_of_row _ _ _ _ _ q
  have f0 := ff 0
  have f1 := ff 1
  have f2 := ff 2
  have f3 := ff 3
  have f4 := ff 4
  have f5 := ff 5
  have q6 := six q (.int .i64 1) (.int .i64 nn) (.int .i64 (capOf m s nn)) (.slice (some ⟨gw, 0, none⟩) nn cw) (.slice (some ⟨gv, 0, none⟩) nn cv) (.slice none 0 0)
  have HR := Lib.hid (box6 q6)
  clear ff q q6
  obtain ⟨r0, r1, r2, r3, r4, r5⟩ := HR.out
  clear HR
  go_wp2
  exact bodyPost_ret (v := .tuple #[.agg #[.int .i64 1, .int .i64 nn, .int .i64 (capOf m s nn), .slice (some ⟨gw, 0, none⟩) nn cw, .slice (some ⟨gv, 0, none⟩) nn cv, .slice none 0 0], .int .i64 0]) (by simp [results, Tryd.results14, go_sem, r0, r1, r2, r3, r4, r5]) rfl FIN.out
/-- the rows of a problem that is made -/
def EL (t : Bool) (m s : Int) (n a : Nat) : List Int := (List.range n).map fun b => ent t m s n a b
def CL (t : Bool) (m s : Int) (n : Nat) : List (List Int) := (List.range n).map fun a => EL t m s n a
theorem CL_len (t : Bool) (m s : Int) (n : Nat) : (CL t m s n).length = n := by simp [CL]
theorem EL_len (t : Bool) (m s : Int) (n a : Nat) : (EL t m s n a).length = n := by simp [EL]
theorem CL_at (t : Bool) (m s : Int) (n a : Nat) (h : a < n) : (CL t m s n)[a]?.getD [] = EL t m s n a := by simp [CL, h]
theorem enc_EL (t : Bool) (m s : Int) (n a : Nat) : rl t m s n a n = enc (EL t m s n a) := by
  unfold rl enc EL
  rw [List.map_map]
  apply List.map_congr_left
  intro b hb
  have : b < n := by simpa using hb
  simp [this]
theorem rws_rows {W : World} {B n gc : Nat} {gs : Nat → Nat} {t : Bool} {m s : Int} (hn : n ≤ 1000) (h1 : W.ownsRow B 22 1 (.slice (some ⟨gc, 0, none⟩) n n) n (tl gs n n)) (h2 : ∀ j, j < n → W.ownsRow B 3 1 (.slice (some ⟨gs j, 0, none⟩) n n) n (rl t m s n j n)) : Rws W (some ⟨gc, 0, none⟩) (CL t m s n) := fun j hj => by
  have hj' : j < n := by rw [CL_len] at hj; exact hj
  refine ⟨gc, 0, some ⟨gs j, 0, none⟩, n, rfl, (h1.lt gc rfl).2, ?_, ?_, ?_⟩
  · rw [Nat.zero_add, h1.cellAt j (by omega), tl_at _ _ _ _ hj', if_pos hj', CL_at _ _ _ _ _ hj', EL_len]
  · rw [CL_at _ _ _ _ _ hj']
    have := h2 j hj'
    rw [enc_EL] at this
    exact ints_row (EL_len _ _ _ _ _) this
  · rw [CL_at _ _ _ _ _ hj', EL_len]; exact hn
set_option maxHeartbeats 1000000 in
theorem make_two (nn : Nat) (n1 : 1 ≤ nn) (n2 : nn ≤ 24) (m s : Int) (h0 : 0 ≤ m) (h1 : m ≤ 2147483647) (w : World) : Calls Tryd.prog 14 #[.int .i64 2, .int .i64 nn, .int .i64 m, .int .u64 s] w (MkP 0 2 nn 0 [] [] (CL false m s nn) w) := by
  have H := Lib.hid (fun W => entry_yes m h0 h1 W)
  have hn : ¬ (nn : Int) < 1 := by omega
  have hd : ((w.alloc (.cells #[.int .i64 0, .int .i64 0, .int .i64 0, .slice none 0 0, .slice none 0 0, .slice none 0 0] 25)).alloc (.cells #[.int .u64 s, .int .i64 m] 70)).heap[w.heap.size + 1]? = some (.cells #[.int .u64 (sd s 0), .int .i64 m] 70 (0, 0)) := by rw [sd_zero]; exact heap_alloc2_new w _ _
  have hz : ((w.alloc (.cells #[.int .i64 0, .int .i64 0, .int .i64 0, .slice none 0 0, .slice none 0 0, .slice none 0 0] 25)).alloc (.cells #[.int .u64 s, .int .i64 m] 70)).heap[w.heap.size]? = some (.cells #[.int .i64 0, .int .i64 0, .int .i64 0, .slice none 0 0, .slice none 0 0, .slice none 0 0] 25 (0, 0)) := heap_alloc2_old w _ _
  have hsz : ((w.alloc (.cells #[.int .i64 0, .int .i64 0, .int .i64 0, .slice none 0 0, .slice none 0 0, .slice none 0 0] 25)).alloc (.cells #[.int .u64 s, .int .i64 m] 70)).heap.size = w.heap.size + 1 + 1 := by simp
  have hb : Below w.heap.size w ((w.alloc (.cells #[.int .i64 0, .int .i64 0, .int .i64 0, .slice none 0 0, .slice none 0 0, .slice none 0 0] 25)).alloc (.cells #[.int .u64 s, .int .i64 m] 70)) := bl_al (bl_al (Below.refl w.heap.size w) _) _
  generalize hX : ((w.alloc (.cells #[.int .i64 0, .int .i64 0, .int .i64 0, .slice none 0 0, .slice none 0 0, .slice none 0 0] 25)).alloc (.cells #[.int .u64 s, .int .i64 m] 70)) = X at *
  have KK := Lib.hid (costs_two m s h0 h1 nn n1 n2 (w.heap.size + 1) X hd)
  have HX := Lib.hid hX
  have HZ := Lib.hid hz
  have HB := Lib.hid hb
  clear hd hz hb hX h0 h1
  go_enter Tryd.func14, Tryd.ntmps14
  go_wp2_with fail
  refine (H.out _).mono ?_; rintro e w1 ⟨rfl, rfl⟩
  go_wp2_with fail
  rw [HX.out]
  refine KK.out.mono ?_; rintro e w1 ⟨gc, gs, rfl, rt, rr, gone⟩
  have q := (gone.block w.heap.size (by omega) (fun e => by injection e with e; omega)).trans HZ.out
  have bw := Lib.hid (below_of HB.out gone (by omega))
  have RT := Lib.hid rt
  have RR := Lib.hid rr
  clear rt rr gone KK H HX HZ HB
  have FIN : Hid (MkP 0 2 nn 0 [] [] (CL false m s nn) w (.returned (.tuple #[.agg #[.int .i64 2, .int .i64 nn, .int .i64 0, .slice none 0 0, .slice none 0 0, .slice (some ⟨gc, 0, none⟩) nn nn], .int .i64 0])) ((((((w1.setCell ⟨w.heap.size, 0, none⟩ (.int .i64 2)).setCell ⟨w.heap.size, 1, none⟩ (.int .i64 nn)).setCell ⟨w.heap.size, 2, none⟩ (.int .i64 0)).setCell ⟨w.heap.size, 3, none⟩ (.slice none 0 0)).setCell ⟨w.heap.size, 4, none⟩ (.slice none 0 0)).setCell ⟨w.heap.size, 5, none⟩ (.slice (some ⟨gc, 0, none⟩) nn nn))) := by
    have hs : ∀ (j : Nat) (v : Value) (Y : World), Below w.heap.size w Y → Below w.heap.size w (Y.setCell ⟨w.heap.size, j, none⟩ v) := fun j v Y h => h.setCell (p := ⟨w.heap.size, j, none⟩) (Nat.le_refl _) v
    have hr : ∀ (j : Nat) (v : Value) (Y : World) (ee : TypeId) (g c : Nat) (xs : List Value), Y.ownsRow X.heap.size ee 1 (.slice (some ⟨g, 0, none⟩) nn c) nn xs → (Y.setCell ⟨w.heap.size, j, none⟩ v).ownsRow X.heap.size ee 1 (.slice (some ⟨g, 0, none⟩) nn c) nn xs := fun j v Y ee g c xs h => Go.RowKit.ownsRow_setCell_below h (by show w.heap.size < X.heap.size; omega) v
    refine ⟨none, none, some ⟨gc, 0, none⟩, 0, 0, nn, by rw [CL_len]; rfl, fun j hj => by simp at hj, fun j hj => by simp at hj, rws_rows (by omega) (hr _ _ _ _ _ _ _ (hr _ _ _ _ _ _ _ (hr _ _ _ _ _ _ _ (hr _ _ _ _ _ _ _ (hr _ _ _ _ _ _ _ (hr _ _ _ _ _ _ _ RT.out)))))) (fun j hj => hr _ _ _ _ _ _ _ (hr _ _ _ _ _ _ _ (hr _ _ _ _ _ _ _ (hr _ _ _ _ _ _ _ (hr _ _ _ _ _ _ _ (hr _ _ _ _ _ _ _ (RR.out j hj))))))), hs _ _ _ (hs _ _ _ (hs _ _ _ (hs _ _ _ (hs _ _ _ (hs _ _ _ bw.out)))))⟩
  clear bw RT RR
  obtain ⟨y0, y1, y2, y3, y4, y5⟩ := box6 q
  have ff : ∀ j, w1.frozen? ⟨w.heap.size, j, none⟩ = false := fun j => frozen_of_row _ _ _ _ _ q
  have f0 := ff 0
  have f1 := ff 1
  have f2 := ff 2
  have f3 := ff 3
  have f4 := ff 4
  have f5 := ff 5
  have q6 := six q (.int .i64 2) (.int .i64 nn) (.int .i64 0) (.slice none 0 0) (.slice none 0 0) (.slice (some ⟨gc, 0, none⟩) nn nn)
  have HR := Lib.hid (box6 q6)
  clear ff q q6
  obtain ⟨r0, r1, r2, r3, r4, r5⟩ := HR.out
  clear HR
  go_wp2
  exact bodyPost_ret (v := .tuple #[.agg #[.int .i64 2, .int .i64 nn, .int .i64 0, .slice none 0 0, .slice none 0 0, .slice (some ⟨gc, 0, none⟩) nn nn], .int .i64 0]) (by simp [results, Tryd.results14, go_sem, r0, r1, r2, r3, r4, r5]) rfl FIN.out
set_option maxHeartbeats 1000000 in
theorem make_three (nn : Nat) (n1 : 1 ≤ nn) (n2 : nn ≤ 24) (m s : Int) (h0 : 0 ≤ m) (h1 : m ≤ 2147483647) (w : World) : Calls Tryd.prog 14 #[.int .i64 3, .int .i64 nn, .int .i64 m, .int .u64 s] w (MkP 0 3 nn 0 [] [] (CL true m s nn) w) := by
  have H := Lib.hid (fun W => entry_yes m h0 h1 W)
  have hn : ¬ (nn : Int) < 1 := by omega
  have hd : ((w.alloc (.cells #[.int .i64 0, .int .i64 0, .int .i64 0, .slice none 0 0, .slice none 0 0, .slice none 0 0] 25)).alloc (.cells #[.int .u64 s, .int .i64 m] 70)).heap[w.heap.size + 1]? = some (.cells #[.int .u64 (sd s 0), .int .i64 m] 70 (0, 0)) := by rw [sd_zero]; exact heap_alloc2_new w _ _
  have hz : ((w.alloc (.cells #[.int .i64 0, .int .i64 0, .int .i64 0, .slice none 0 0, .slice none 0 0, .slice none 0 0] 25)).alloc (.cells #[.int .u64 s, .int .i64 m] 70)).heap[w.heap.size]? = some (.cells #[.int .i64 0, .int .i64 0, .int .i64 0, .slice none 0 0, .slice none 0 0, .slice none 0 0] 25 (0, 0)) := heap_alloc2_old w _ _
  have hsz : ((w.alloc (.cells #[.int .i64 0, .int .i64 0, .int .i64 0, .slice none 0 0, .slice none 0 0, .slice none 0 0] 25)).alloc (.cells #[.int .u64 s, .int .i64 m] 70)).heap.size = w.heap.size + 1 + 1 := by simp
  have hb : Below w.heap.size w ((w.alloc (.cells #[.int .i64 0, .int .i64 0, .int .i64 0, .slice none 0 0, .slice none 0 0, .slice none 0 0] 25)).alloc (.cells #[.int .u64 s, .int .i64 m] 70)) := bl_al (bl_al (Below.refl w.heap.size w) _) _
  generalize hX : ((w.alloc (.cells #[.int .i64 0, .int .i64 0, .int .i64 0, .slice none 0 0, .slice none 0 0, .slice none 0 0] 25)).alloc (.cells #[.int .u64 s, .int .i64 m] 70)) = X at *
  have KK := Lib.hid (costs_three m s h0 h1 nn n1 n2 (w.heap.size + 1) X hd)
  have HX := Lib.hid hX
  have HZ := Lib.hid hz
  have HB := Lib.hid hb
  clear hd hz hb hX h0 h1
  go_enter Tryd.func14, Tryd.ntmps14
  go_wp2_with fail
  refine (H.out _).mono ?_; rintro e w1 ⟨rfl, rfl⟩
  go_wp2_with fail
  rw [HX.out]
  refine KK.out.mono ?_; rintro e w1 ⟨gc, gs, rfl, rt, rr, gone⟩
  have q := (gone.block w.heap.size (by omega) (fun e => by injection e with e; omega)).trans HZ.out
  have bw := Lib.hid (below_of HB.out gone (by omega))
  have RT := Lib.hid rt
  have RR := Lib.hid rr
  clear rt rr gone KK H HX HZ HB
  have FIN : Hid (MkP 0 3 nn 0 [] [] (CL true m s nn) w (.returned (.tuple #[.agg #[.int .i64 3, .int .i64 nn, .int .i64 0, .slice none 0 0, .slice none 0 0, .slice (some ⟨gc, 0, none⟩) nn nn], .int .i64 0])) ((((((w1.setCell ⟨w.heap.size, 0, none⟩ (.int .i64 3)).setCell ⟨w.heap.size, 1, none⟩ (.int .i64 nn)).setCell ⟨w.heap.size, 2, none⟩ (.int .i64 0)).setCell ⟨w.heap.size, 3, none⟩ (.slice none 0 0)).setCell ⟨w.heap.size, 4, none⟩ (.slice none 0 0)).setCell ⟨w.heap.size, 5, none⟩ (.slice (some ⟨gc, 0, none⟩) nn nn))) := by
    have hs : ∀ (j : Nat) (v : Value) (Y : World), Below w.heap.size w Y → Below w.heap.size w (Y.setCell ⟨w.heap.size, j, none⟩ v) := fun j v Y h => h.setCell (p := ⟨w.heap.size, j, none⟩) (Nat.le_refl _) v
    have hr : ∀ (j : Nat) (v : Value) (Y : World) (ee : TypeId) (g c : Nat) (xs : List Value), Y.ownsRow X.heap.size ee 1 (.slice (some ⟨g, 0, none⟩) nn c) nn xs → (Y.setCell ⟨w.heap.size, j, none⟩ v).ownsRow X.heap.size ee 1 (.slice (some ⟨g, 0, none⟩) nn c) nn xs := fun j v Y ee g c xs h => Go.RowKit.ownsRow_setCell_below h (by show w.heap.size < X.heap.size; omega) v
    refine ⟨none, none, some ⟨gc, 0, none⟩, 0, 0, nn, by rw [CL_len]; rfl, fun j hj => by simp at hj, fun j hj => by simp at hj, rws_rows (by omega) (hr _ _ _ _ _ _ _ (hr _ _ _ _ _ _ _ (hr _ _ _ _ _ _ _ (hr _ _ _ _ _ _ _ (hr _ _ _ _ _ _ _ (hr _ _ _ _ _ _ _ RT.out)))))) (fun j hj => hr _ _ _ _ _ _ _ (hr _ _ _ _ _ _ _ (hr _ _ _ _ _ _ _ (hr _ _ _ _ _ _ _ (hr _ _ _ _ _ _ _ (hr _ _ _ _ _ _ _ (RR.out j hj))))))), hs _ _ _ (hs _ _ _ (hs _ _ _ (hs _ _ _ (hs _ _ _ (hs _ _ _ bw.out)))))⟩
  clear bw RT RR
  obtain ⟨y0, y1, y2, y3, y4, y5⟩ := box6 q
  have ff : ∀ j, w1.frozen? ⟨w.heap.size, j, none⟩ = false := fun j => frozen_of_row _ _ _ _ _ q
  have f0 := ff 0
  have f1 := ff 1
  have f2 := ff 2
  have f3 := ff 3
  have f4 := ff 4
  have f5 := ff 5
  have q6 := six q (.int .i64 3) (.int .i64 nn) (.int .i64 0) (.slice none 0 0) (.slice none 0 0) (.slice (some ⟨gc, 0, none⟩) nn nn)
  have HR := Lib.hid (box6 q6)
  clear ff q q6
  obtain ⟨r0, r1, r2, r3, r4, r5⟩ := HR.out
  clear HR
  go_wp2
  exact bodyPost_ret (v := .tuple #[.agg #[.int .i64 3, .int .i64 nn, .int .i64 0, .slice none 0 0, .slice none 0 0, .slice (some ⟨gc, 0, none⟩) nn nn], .int .i64 0]) (by simp [results, Tryd.results14, go_sem, r0, r1, r2, r3, r4, r5]) rfl FIN.out
end Go.Proofs.YtjlaankgfpjeeaaDoor.gn

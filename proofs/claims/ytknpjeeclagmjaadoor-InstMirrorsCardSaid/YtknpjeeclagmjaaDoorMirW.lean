/-
  The walk of kurganlaw05.InstMirrors.
-/
import Derived.Test.YtknpjeeclagmjaaDoorMir
import Derived.Deep.RegionHeld3
import Derived.Deep.QuietTactic
import Derived.BigQuiet
namespace Go.Proofs.YtknpjeeclagmjaaDoor
open Go.RowKit
set_option linter.unusedVariables false

structure SymA (cl : List (List Int)) (r : Nat) (wb : Bool) : Prop where
  yes : wb = true → ∀ r' c', r' < r → c' < cl.length → at2 cl r' c' = at2 cl c' r'
  no : wb = false → ¬ symP cl
structure SymB (cl : List (List Int)) (r c : Nat) (wb : Bool) : Prop where
  yes : wb = true → (∀ r' c', r' < r → c' < cl.length → at2 cl r' c' = at2 cl c' r') ∧ ∀ c', c' < c → at2 cl r c' = at2 cl c' r
  no : wb = false → ¬ symP cl
theorem Tn.lists {kd N C : Int} {n1 n2 m g1 g2 k1 k2 bx cc' : Nat} {ca' : Option Addr} {ls : List Nat} {w : World} {B : Nat} {W : World} (h : Tn kd N C n1 n2 m g1 g2 k1 k2 bx cc' ca' ls w B W) : ∃ (wl vl : List Int) (cl : List (List Int)), wl.length = n1 ∧ vl.length = n2 ∧ cl.length = m ∧ IntsO W g1 wl ∧ IntsO W g2 vl ∧ RwsO B W ca' cl := by
  obtain ⟨cl, h1, h2⟩ := h.s.read
  exact ⟨_, _, cl, readInts_len W g1 n1, readInts_len W g2 n2, h1.trans h.hm, h.a.read, h.b.read, h2⟩
set_option maxRecDepth 100000 in
set_option maxHeartbeats 4000000 in
theorem mirrors_turn (kd N C : Int) (wl vl : List Int) (cl : List (List Int)) (wa va ca : Option Addr) (wn vn cn wc vc cc : Nat) (w : World) (ht : Tab w) (h1 : Src w wa wn wc wl) (h2 : Src w va vn vc vl) (h3 : RSrc w ca cn cc cl) :
    Calls Tryd.prog 6 #[.agg #[.int .i64 kd, .int .i64 N, .int .i64 C, .slice wa wn wc, .slice va vn vc, .slice ca cn cc], .bool true] w fun e w' => e = .returned (.bool true) ∧ Below w.heap.size w w' := by
  have bA : Below w.heap.size w (w.alloc (.cells #[.int .i64 kd, .int .i64 N, .int .i64 C, .slice wa wn wc, .slice va vn vc, .slice ca cn cc] 25)) := bl_al (Below.refl _ _) _
  have HC := Lib.hid (refcopy_any kd N C wl vl cl wa va ca wn vn cn wc vc cc _ (h1.keep bA) (h2.keep bA) (h3.keep bA))
  have HT := Lib.hid (tab_keep _ _ ht bA)
  have HB := Lib.hid bA
  have hp := tab_pos ht
  have l1 : wl.length ≤ 1000 := by have := h1.1; omega
  have l2 : vl.length ≤ 1000 := by have := h2.1; omega
  have l3 : cl.length ≤ 1000 := by have := h3.1; omega
  clear h1 h2 h3 bA ht
  go_enter Tryd.func6, Tryd.ntmps6
  go_wp2_with fail
  refine HC.out.mono ?_; rintro e w1 ⟨g1, k1, g2, k2, ca', cc', rfl, hb, i1, i2, rw⟩
  have q0 : w1.heap[w.heap.size]? = some (.cells #[.int .i64 kd, .int .i64 N, .int .i64 C, .slice wa wn wc, .slice va vn vc, .slice ca cn cc] 25 (0, 0)) := (hb.block _ (by simp)).trans (heap_alloc_new w _)
  have Q := Lib.hid q0
  have T1 := Lib.hid (tab_keep _ _ HT.out hb)
  have B1 := Lib.hid (bl_tr HB.out hb)
  have I1 := Lib.hid i1
  have I2 := Lib.hid i2
  have RW := Lib.hid rw
  clear hb i1 i2 rw q0 HC HT HB
  obtain ⟨c0, c1, c2, c3, c4, c5⟩ := box6 Q.out
  have cf := fr6 Q.out
  have hs := lt_hp Q.out
  go_wp2
  clear c0 c1 c2 c3 c4 c5 cf
  have XO : Hid (∀ b, b ≠ w.heap.size → _ = _) := fun b hb => six_other (w := w1) hb (.int .i64 kd) (.int .i64 N) (.int .i64 C) (.slice (some ⟨g1, 0, none⟩) wl.length k1) (.slice (some ⟨g2, 0, none⟩) vl.length k2) (.slice ca' cl.length cc')
  have TT : Hid (Tn kd N C wl.length vl.length cl.length g1 g2 k1 k2 w.heap.size cc' ca' (cl.map List.length) w (w.alloc (.cells #[.int .i64 kd, .int .i64 N, .int .i64 C, .slice wa wn wc, .slice va vn vc, .slice ca cn cc] 25)).heap.size _) := { q := six Q.out (.int .i64 kd) (.int .i64 N) (.int .i64 C) (.slice (some ⟨g1, 0, none⟩) wl.length k1) (.slice (some ⟨g2, 0, none⟩) vl.length k2) (.slice ca' cl.length cc'), a := (I1.out.same (XO.out _ (I1.out.ne Q.out (by decide)))).shape, b := (I2.out.same (XO.out _ (I2.out.ne Q.out (by decide)))).shape, s := (RW.out.other Q.out XO.out).shape, t := tab_b T1.out (six_below (Below.refl w.heap.size w1) (Nat.le_refl _) (.int .i64 kd) (.int .i64 N) (.int .i64 C) (.slice (some ⟨g1, 0, none⟩) wl.length k1) (.slice (some ⟨g2, 0, none⟩) vl.length k2) (.slice ca' cl.length cc')) hp, bl := six_below B1.out (Nat.le_refl _) (.int .i64 kd) (.int .i64 N) (.int .i64 C) (.slice (some ⟨g1, 0, none⟩) wl.length k1) (.slice (some ⟨g2, 0, none⟩) vl.length k2) (.slice ca' cl.length cc'), hm := by simp, hB := by simp, hp := hp }
  generalize ((((((w1.setCell ⟨w.heap.size, 0, none⟩ (.int .i64 kd)).setCell ⟨w.heap.size, 1, none⟩ (.int .i64 N)).setCell ⟨w.heap.size, 2, none⟩ (.int .i64 C)).setCell ⟨w.heap.size, 3, none⟩ (.slice (some ⟨g1, 0, none⟩) wl.length k1)).setCell ⟨w.heap.size, 4, none⟩ (.slice (some ⟨g2, 0, none⟩) vl.length k2)).setCell ⟨w.heap.size, 5, none⟩ (.slice ca' cl.length cc')) = X at TT ⊢
  generalize hn1 : wl.length = n1 at TT l1 ⊢
  generalize hn2 : vl.length = n2 at TT l2 ⊢
  generalize hn3 : cl.length = m at TT l3 ⊢
  generalize hls : cl.map List.length = ls at TT
  generalize hBB : (w.alloc (.cells #[.int .i64 kd, .int .i64 N, .int .i64 C, .slice wa wn wc, .slice va vn vc, .slice ca cn cc] 25)).heap.size = B at TT
  clear Q T1 B1 I1 I2 RW XO hs hn1 hn2 hn3 hls hBB
  go_wp2
  go_loopw [5] (fun i wr => ∃ r : Nat, r ≤ m ∧ i = .int .i64 r ∧ Hid (Tn kd N C n1 n2 m g1 g2 k1 k2 w.heap.size cc' ca' ls w B wr)) (fun i _ => m - (intOf i).toNat)
  case atStart => exact ⟨0, by omega, rfl, TT⟩
  case round =>
    clear TT
    obtain ⟨r, hr, rfl, TR⟩ := hrel
    obtain ⟨d0, d1, d2, d3, d4, d5⟩ := box6 TR.out.q
    by_cases hlt : r < m
    · go_wp2
      clear d0 d1 d2 d3 d4 d5
      go_loopw [6] (fun i wr => ∃ c : Nat, c ≤ ls[r]?.getD 0 ∧ i = .int .i64 c ∧ Hid (Tn kd N C n1 n2 m g1 g2 k1 k2 w.heap.size cc' ca' ls w B wr)) (fun i _ => ls[r]?.getD 0 - (intOf i).toNat)
      case atStart => exact ⟨0, by omega, rfl, TR⟩
      case round =>
        clear TR
        obtain ⟨c, hc, rfl, TC⟩ := hrel
        obtain ⟨d0, d1, d2, d3, d4, d5⟩ := box6 TC.out.q
        obtain ⟨g, gr, cj, cs, rfl, f1, f2, f3, f4, f5, co, f6⟩ := TC.out.row hlt
        have FH := Lib.hid f2
        have F3 := Lib.hid f3
        have F6 := Lib.hid f6
        clear f2 f3 f6
        have TN := Lib.hid TC.out
        clear TC
        generalize hLr : ls[r]?.getD 0 = Lr at *
        have rb : (0 : Int) ≤ (r : Int) ∧ (r : Int) < (m : Int) := by omega
        by_cases hcl : c < Lr
        · by_cases hcr : c < r
          · have hcm : c < m := by omega
            have cb : (0 : Int) ≤ (c : Int) ∧ (c : Int) < (m : Int) := by omega
            obtain ⟨g', gc, cj', cs', e', p1, p2, p3, p4, p5, _⟩ := TN.out.row hcm
            injection e' with e'
            injection e' with e' _
            subst e'
            generalize hLc : ls[c]?.getD 0 = Lc at *
            by_cases hrc : r < Lc
            · obtain ⟨x, hx⟩ := p3 r hrc
              obtain ⟨z, hz⟩ := F3.out c hcl
              have hfz : gr < wr.heap.size ∧ wr.frozen? ⟨gr, c, none⟩ = false := ⟨lt_hp FH.out, frozen_of_row _ _ _ _ _ FH.out⟩
              clear p2 p3
              have cbl : (c : Int) < (Lr : Int) := by omega
              have rbl : (r : Int) < (Lc : Int) := by omega
              have K2 : Hid (Tn kd N C n1 n2 m g1 g2 k1 k2 w.heap.size cc' (some ⟨g, 0, none⟩) ls w B ((wr.setCell ⟨gr, c, none⟩ (.int .i64 x)).drew)) := (TN.out.set FH.out f4).keep (Below.refl _ _).drew
              have s1 := (set_cell_other (c := c) (j := 5) (x := x) FH.out TN.out.q (by decide)).trans d5
              have s2 := (set_cell_other (c := c) (j := r) (x := x) FH.out F6.out (by decide)).trans f1
              have s3 := (set_cell_other (c := c) (j := c) (x := x) FH.out F6.out (by decide)).trans p1
              have s4 := set_cell_same (gr := gr) (c := c) hx
              go_wp2
              go_region_held3 (fun w' => w'.cell? ⟨w.heap.size, 5, none⟩ = some (.slice (some ⟨g, 0, none⟩) m cc') ∧ w'.cell? ⟨g, r, none⟩ = some (.slice (some ⟨gr, 0, none⟩) Lr cj) ∧ w'.cell? ⟨g, c, none⟩ = some (.slice (some ⟨gc, 0, none⟩) Lc cj') ∧ w'.cell? ⟨gc, r, none⟩ = some (.int .i64 x)) (first | exact ⟨d5, f1, p1, hx⟩ | exact ⟨s1, s2, s3, s4⟩) (fail)
              all_goals go_wp2
              all_goals
                go_roundw
                case rel => exact ⟨c + 1, by omega, by go_num, K2⟩
                case measure => simp [intOf]; omega
            · clear p2 p3
              have rbl : ¬ (r : Int) < (Lc : Int) := by omega
              go_wp2
              go_roundw
              case rel => exact ⟨c + 1, by omega, by go_num, TN⟩
              case measure => simp [intOf]; omega
          · go_wp2
            go_roundw
            case rel => exact ⟨c + 1, by omega, by go_num, TN⟩
            case measure => simp [intOf]; omega
        · go_wp2
          go_roundw
          case rel => exact ⟨r + 1, by omega, by go_num, TN⟩
          case measure => simp [intOf]; omega
    · obtain rfl : r = m := by omega
      obtain ⟨wl', vl', cl', hn1, hn2, hn3, j1, j2, jr⟩ := TR.out.lists
      subst hn1 hn2 hn3
      obtain ⟨d0, d1, d2, d3, d4, d5⟩ := box6 TR.out.q
      by_cases h3 : kd = 3
      · have RF := Lib.hid (ref_any kd N C wl' vl' cl' (some ⟨g1, 0, none⟩) (some ⟨g2, 0, none⟩) ca' k1 k2 cc' _ j1.ints j2.ints jr.rws l1 l2 l3)
        have G1 := Lib.hid j1
        have G2 := Lib.hid j2
        have GR := Lib.hid jr
        clear j1 j2 jr
        by_cases h0 : chk kd N C wl' vl' cl' = 0
        · have HC0 := Lib.hid h0
          rw [h0] at RF
          obtain ⟨fN, fR⟩ := chk_ok h0 h3
          clear h0
          have hk3 : (kd == 3) = true := by simpa using h3
          have H3 := Lib.hid h3
          clear h3
          have FR := Lib.hid fR
          clear fR
          go_wp2_with fail
          refine RF.out.mono ?_; rintro e W2 ⟨rfl, hb2⟩
          have TW := Lib.hid (TR.out.keep hb2)
          have J1 := Lib.hid (G1.out.keep hb2)
          have J2 := Lib.hid (G2.out.keep hb2)
          have JR := Lib.hid (GR.out.keep hb2)
          have JS := Lib.hid (GR.out.keep hb2).rws
          clear hb2 RF G1 G2 GR TR d0 d1 d2 d3 d4 d5
          subst fN
          obtain ⟨d0, d1, d2, d3, d4, d5⟩ := box6 TW.out.q
          go_wp2
          go_loopw [7, 8] (fun a i wr => ∃ (r : Nat) (wb : Bool), r ≤ cl'.length ∧ i = .int .i64 r ∧ a = .bool wb ∧ Hid (SymA cl' r wb) ∧ ∃ n, wr = W2.drewN n) (fun _ i _ => cl'.length - (intOf i).toNat)
          case atStart => exact ⟨0, true, by omega, rfl, rfl, ⟨fun _ r' c' h => absurd h (by omega), fun h => (by cases h)⟩, 0, rfl⟩
          case round =>
            obtain ⟨r, wb, hr, rfl, rfl, HS, n, rfl⟩ := hrel
            by_cases hlt : r < cl'.length
            · cases wb with
              | false =>
                have HN := HS.out.no rfl
                clear HS
                go_wp2_with fail
                have M1 := Lib.hid (insts_any (W2.drewN n) (TW.out.keep (bl_dn (Below.refl W2.heap.size W2) n)).t)
                refine M1.out.mono ?_; rintro e w3 ⟨rfl, hb3⟩
                have B3 := Lib.hid (bl_tr (bl_dn (Below.refl W2.heap.size W2) n) hb3)
                have M2 := Lib.hid (mirror_any kd cl'.length C false wl' vl' cl' ⟨fun h => (by cases h), fun h => absurd h.2.2 HN⟩ (some ⟨g1, 0, none⟩) (some ⟨g2, 0, none⟩) ca' k1 k2 cc' w3 (J1.out.keep B3.out).ints (J2.out.keep B3.out).ints (JR.out.keep B3.out).rws l1 l2 l3)
                obtain ⟨x0, x1, x2, x3, x4, x5⟩ := box6 (TW.out.keep B3.out).q
                clear hb3 M1
                go_wp2_with fail
                refine M2.out.mono ?_; rintro e w4 ⟨rfl, hb4⟩
                clear x0 x1 x2 x3 x4 x5 M2
                go_wp2
                go_ret
                exact ⟨rfl, TW.out.bl.trans ((bl_tr B3.out hb4).mono TW.out.bl.size)⟩
              | true =>
                have HS1 := Lib.hid (HS.out.yes rfl)
                clear HS
                go_wp2
                go_loopw [7, 9] (fun a i wr => ∃ (c : Nat) (wb : Bool), c ≤ cl'.length ∧ i = .int .i64 c ∧ a = .bool wb ∧ Hid (SymB cl' r c wb) ∧ ∃ n, wr = W2.drewN n) (fun _ i _ => cl'.length - (intOf i).toNat)
                case atStart => exact ⟨0, true, by omega, rfl, rfl, ⟨fun _ => ⟨HS1.out, fun c' h => absurd h (by omega)⟩, fun h => (by cases h)⟩, _, rfl⟩
                case round =>
                  obtain ⟨c, wb, hc, rfl, rfl, HT, n, rfl⟩ := hrel
                  by_cases hcl : c < cl'.length
                  · cases wb with
                    | false =>
                      have HN : Hid (SymB cl' r (c + 1) false) := ⟨fun h => (by cases h), HT.out.no⟩
                      clear HT
                      go_wp2
                      go_quiet (fail)
                      all_goals go_wp2
                      all_goals
                        go_roundw
                        case rel => exact ⟨c + 1, false, by omega, by go_num, rfl, HN, _, rfl⟩
                        case measure => simp [intOf]; omega
                    | true =>
                      have HT1 := Lib.hid (HT.out.yes rfl)
                      clear HT
                      obtain ⟨b1, o1, a1, q1, e1, hb1, hc1, hrow1, _⟩ := JS.out r hlt
                      obtain ⟨b2, o2, a2, q2, e2, hb2, hc2, hrow2, _⟩ := JS.out c hcl
                      have hl1 := FR.out r hlt
                      have hl2 := FR.out c hcl
                      rw [hl1] at hc1
                      rw [hl2] at hc2
                      obtain ⟨b3, o3, e3, hb3, hx⟩ := hrow1 c (by omega)
                      obtain ⟨b4, o4, e4, hb4, hy⟩ := hrow2 r (by omega)
                      have ex : (cl'[r]?.getD [])[c]?.getD 0 = at2 cl' r c := rfl
                      have ey : (cl'[c]?.getD [])[r]?.getD 0 = at2 cl' c r := rfl
                      rw [ex] at hx
                      rw [ey] at hy
                      clear ex ey hl1 hl2 hrow1 hrow2
                      subst e3 e4
                      have E1 : ca' = some ⟨b1, o1, none⟩ := e1
                      have E2 : b2 = b1 ∧ o2 = o1 := by
                        rw [e1] at e2
                        injection e2 with e2
                        injection e2 with e2 e2'
                        exact ⟨e2.symm, e2'.symm⟩
                      obtain ⟨rfl, rfl⟩ := E2
                      clear e2 E1
                      rw [e1] at d5
                      have d6 : W2.cell? ⟨w.heap.size, 5, none⟩ = some (.slice (some ⟨b2, o2, none⟩) cl'.length cc') := d5
                      have rbn : (0 : Int) ≤ (r : Int) ∧ (r : Int) < (cl'.length : Int) := by omega
                      have cbn : (0 : Int) ≤ (c : Int) ∧ (c : Int) < (cl'.length : Int) := by omega
                      have E := Lib.hid e1
                      clear e1
                      by_cases hxy : at2 cl' r c = at2 cl' c r
                      · have HF : Hid (SymB cl' r (c + 1) true) := ⟨fun _ => ⟨HT1.out.1, fun c' h => (by
                          rcases Nat.lt_or_ge c' c with h' | h'
                          · exact HT1.out.2 c' h'
                          · obtain rfl : c' = c := by omega
                            exact hxy)⟩, fun h => (by cases h)⟩
                        generalize at2 cl' r c = x at *
                        generalize at2 cl' c r = y at *
                        subst hxy
                        go_wp2
                        go_quiet (fail)
                        all_goals go_wp2
                        all_goals
                          go_roundw
                          case rel => exact ⟨c + 1, true, by omega, by go_num, rfl, HF, _, rfl⟩
                          case measure => simp [intOf]; omega
                      · have HF : Hid (SymB cl' r (c + 1) false) := ⟨fun h => (by cases h), fun _ h => hxy (h r c hlt hcl)⟩
                        generalize at2 cl' r c = x at *
                        generalize at2 cl' c r = y at *
                        have hxy' : (x == y) = false := by simpa using hxy
                        go_wp2
                        go_quiet (fail)
                        all_goals go_wp2
                        all_goals
                          go_roundw
                          case rel => exact ⟨c + 1, false, by omega, by go_num, rfl, HF, _, rfl⟩
                          case measure => simp [intOf]; omega
                  · have HF : Hid (SymA cl' (r + 1) wb) := ⟨fun h => (fun r' c' h1 h2 => (by
                      rcases Nat.lt_or_ge r' r with h' | h'
                      · exact (HT.out.yes h).1 r' c' h' h2
                      · obtain rfl : r' = r := by omega
                        exact (HT.out.yes h).2 c' (by omega))), HT.out.no⟩
                    go_wp2
                    go_roundw
                    case rel => exact ⟨r + 1, wb, by omega, by go_num, rfl, HF, _, rfl⟩
                    case measure => simp [intOf]; omega
            · have HZ : Hid (wb = true ↔ kd = 3 ∧ chk kd cl'.length C wl' vl' cl' = 0 ∧ symP cl') := (by
                cases wb with
                | false => exact ⟨fun h => (by cases h), fun h => absurd h.2.2 (HS.out.no rfl)⟩
                | true => exact ⟨fun _ => ⟨H3.out, HC0.out, fun r' c' h1 h2 => HS.out.yes rfl r' c' (by omega) h2⟩, fun _ => rfl⟩)
              clear HS
              go_wp2_with fail
              have M1 := Lib.hid (insts_any (W2.drewN n) (TW.out.keep (bl_dn (Below.refl W2.heap.size W2) n)).t)
              refine M1.out.mono ?_; rintro e w3 ⟨rfl, hb3⟩
              have B3 := Lib.hid (bl_tr (bl_dn (Below.refl W2.heap.size W2) n) hb3)
              have M2 := Lib.hid (mirror_any kd cl'.length C wb wl' vl' cl' HZ.out (some ⟨g1, 0, none⟩) (some ⟨g2, 0, none⟩) ca' k1 k2 cc' w3 (J1.out.keep B3.out).ints (J2.out.keep B3.out).ints (JR.out.keep B3.out).rws l1 l2 l3)
              obtain ⟨x0, x1, x2, x3, x4, x5⟩ := box6 (TW.out.keep B3.out).q
              clear hb3 M1
              go_wp2_with fail
              refine M2.out.mono ?_; rintro e w4 ⟨rfl, hb4⟩
              clear x0 x1 x2 x3 x4 x5 M2
              go_wp2
              go_ret
              exact ⟨rfl, TW.out.bl.trans ((bl_tr B3.out hb4).mono TW.out.bl.size)⟩
        · have HN : Hid (¬ chk kd N C wl' vl' cl' = 0) := h0
          have hk3 : (kd == 3) = true := by simpa using h3
          generalize hv0 : chk kd N C wl' vl' cl' = v at RF h0
          have HV0 := Lib.hid hv0
          have hv1 : (v == 0) = false := by simpa using h0
          clear h3 hv0
          go_wp2_with fail
          refine RF.out.mono ?_; rintro e W2 ⟨rfl, hb2⟩
          have TW := Lib.hid (TR.out.keep hb2)
          have J1 := Lib.hid (G1.out.keep hb2)
          have J2 := Lib.hid (G2.out.keep hb2)
          have JR := Lib.hid (GR.out.keep hb2)
          clear hb2 RF G1 G2 GR TR d0 d1 d2 d3 d4 d5
          obtain ⟨d0, d1, d2, d3, d4, d5⟩ := box6 TW.out.q
          by_cases hN0 : 0 < N
          · go_wp2
            go_loop [7, 8] (fun a i => a = .bool false ∧ i = .int .i64 0) (fun _ _ => 0)
            case atStart => exact ⟨rfl, rfl⟩
            case round =>
              obtain ⟨rfl, rfl⟩ := hrel
              go_wp2_with fail
              have M1 := Lib.hid (insts_any W2 (TW.out.keep (Below.refl W2.heap.size W2)).t)
              refine M1.out.mono ?_; rintro e w3 ⟨rfl, hb3⟩
              have B3 := Lib.hid (bl_tr (Below.refl W2.heap.size W2) hb3)
              have M2 := Lib.hid (mirror_any kd N C false wl' vl' cl' ⟨fun h => (by cases h), fun h => absurd h.2.1 HN.out⟩ (some ⟨g1, 0, none⟩) (some ⟨g2, 0, none⟩) ca' k1 k2 cc' w3 (J1.out.keep B3.out).ints (J2.out.keep B3.out).ints (JR.out.keep B3.out).rws l1 l2 l3)
              obtain ⟨x0, x1, x2, x3, x4, x5⟩ := box6 (TW.out.keep B3.out).q
              clear hb3 M1
              go_wp2_with fail
              refine M2.out.mono ?_; rintro e w4 ⟨rfl, hb4⟩
              clear x0 x1 x2 x3 x4 x5 M2
              go_wp2
              go_ret
              exact ⟨rfl, TW.out.bl.trans ((bl_tr B3.out hb4).mono TW.out.bl.size)⟩
          · go_wp2
            go_loop [7, 8] (fun a i => a = .bool false ∧ i = .int .i64 0) (fun _ _ => 0)
            case atStart => exact ⟨rfl, rfl⟩
            case round =>
              obtain ⟨rfl, rfl⟩ := hrel
              go_wp2_with fail
              have M1 := Lib.hid (insts_any W2 (TW.out.keep (Below.refl W2.heap.size W2)).t)
              refine M1.out.mono ?_; rintro e w3 ⟨rfl, hb3⟩
              have B3 := Lib.hid (bl_tr (Below.refl W2.heap.size W2) hb3)
              have M2 := Lib.hid (mirror_any kd N C false wl' vl' cl' ⟨fun h => (by cases h), fun h => absurd h.2.1 HN.out⟩ (some ⟨g1, 0, none⟩) (some ⟨g2, 0, none⟩) ca' k1 k2 cc' w3 (J1.out.keep B3.out).ints (J2.out.keep B3.out).ints (JR.out.keep B3.out).rws l1 l2 l3)
              obtain ⟨x0, x1, x2, x3, x4, x5⟩ := box6 (TW.out.keep B3.out).q
              clear hb3 M1
              go_wp2_with fail
              refine M2.out.mono ?_; rintro e w4 ⟨rfl, hb4⟩
              clear x0 x1 x2 x3 x4 x5 M2
              go_wp2
              go_ret
              exact ⟨rfl, TW.out.bl.trans ((bl_tr B3.out hb4).mono TW.out.bl.size)⟩
      · have hk3 : (kd == 3) = false := by simpa using h3
        have HN := Lib.hid h3
        have TW := TR
        have J1 := Lib.hid j1
        have J2 := Lib.hid j2
        have JR := Lib.hid jr
        clear h3 j1 j2 jr
        by_cases hN0 : 0 < N
        · go_wp2
          go_loop [7, 8] (fun a i => a = .bool false ∧ i = .int .i64 0) (fun _ _ => 0)
          case atStart => exact ⟨rfl, rfl⟩
          case round =>
            obtain ⟨rfl, rfl⟩ := hrel
            go_wp2_with fail
            have M1 := Lib.hid (insts_any wr (TW.out.keep (Below.refl wr.heap.size wr)).t)
            refine M1.out.mono ?_; rintro e w3 ⟨rfl, hb3⟩
            have B3 := Lib.hid (bl_tr (Below.refl wr.heap.size wr) hb3)
            have M2 := Lib.hid (mirror_any kd N C false wl' vl' cl' ⟨fun h => (by cases h), fun h => absurd h.1 HN.out⟩ (some ⟨g1, 0, none⟩) (some ⟨g2, 0, none⟩) ca' k1 k2 cc' w3 (J1.out.keep B3.out).ints (J2.out.keep B3.out).ints (JR.out.keep B3.out).rws l1 l2 l3)
            obtain ⟨x0, x1, x2, x3, x4, x5⟩ := box6 (TW.out.keep B3.out).q
            clear hb3 M1
            go_wp2_with fail
            refine M2.out.mono ?_; rintro e w4 ⟨rfl, hb4⟩
            clear x0 x1 x2 x3 x4 x5 M2
            go_wp2
            go_ret
            exact ⟨rfl, TW.out.bl.trans ((bl_tr B3.out hb4).mono TW.out.bl.size)⟩
        · go_wp2
          go_loop [7, 8] (fun a i => a = .bool false ∧ i = .int .i64 0) (fun _ _ => 0)
          case atStart => exact ⟨rfl, rfl⟩
          case round =>
            obtain ⟨rfl, rfl⟩ := hrel
            go_wp2_with fail
            have M1 := Lib.hid (insts_any wr (TW.out.keep (Below.refl wr.heap.size wr)).t)
            refine M1.out.mono ?_; rintro e w3 ⟨rfl, hb3⟩
            have B3 := Lib.hid (bl_tr (Below.refl wr.heap.size wr) hb3)
            have M2 := Lib.hid (mirror_any kd N C false wl' vl' cl' ⟨fun h => (by cases h), fun h => absurd h.1 HN.out⟩ (some ⟨g1, 0, none⟩) (some ⟨g2, 0, none⟩) ca' k1 k2 cc' w3 (J1.out.keep B3.out).ints (J2.out.keep B3.out).ints (JR.out.keep B3.out).rws l1 l2 l3)
            obtain ⟨x0, x1, x2, x3, x4, x5⟩ := box6 (TW.out.keep B3.out).q
            clear hb3 M1
            go_wp2_with fail
            refine M2.out.mono ?_; rintro e w4 ⟨rfl, hb4⟩
            clear x0 x1 x2 x3 x4 x5 M2
            go_wp2
            go_ret
            exact ⟨rfl, TW.out.bl.trans ((bl_tr B3.out hb4).mono TW.out.bl.size)⟩
end Go.Proofs.YtknpjeeclagmjaaDoor

/-
  The walk of kurganlaw06.ParseBack.
-/
import Derived.Test.YtjlaankgfpjeeaaDoorTxOne
import Derived.Test.YtjlaankgfpjeeaaDoorInCopy
import Derived.Deep.Cut
namespace Go.Proofs.YtjlaankgfpjeeaaDoor
open Go.RowKit
open ip (wtx chk chk_zero Tab WPost Src RSrc Ints Rws IntsO RwsO)
set_option linter.unusedVariables false
theorem nat_eq {K N C : Int} {n : Nat} (h : N = n) : N = n := h
set_option maxRecDepth 100000 in
set_option maxHeartbeats 2000000 in
theorem back_long (kd N C : Int) (wl vl : List Int) (cl : List (List Int)) (wa va ca : Option Addr) (wn vn cn wc vc cc : Nat) (s : ByteArray) (w : World) (ht : Tab w) (h1 : Src w wa wn wc wl) (h2 : Src w va vn vc vl) (h3 : RSrc w ca cn cc cl) (t : ByteArray) (er : Int) (hW : ∀ (wa va ca : Option Addr) (wc vc cc : Nat) (w : World), Tab w → Ints w wa wl → Ints w va vl → Rws w ca cl → Calls Tryd.prog 9 #[.agg #[.int .i64 kd, .int .i64 N, .int .i64 C, .slice wa wl.length wc, .slice va vl.length vc, .slice ca cl.length cc]] w (WPost t er w)) (hs20 : 20000 < s.size) :
    Calls Tryd.prog 3 #[.agg #[.int .i64 kd, .int .i64 N, .int .i64 C, .slice wa wn wc, .slice va vn vc, .slice ca cn cc], .string s] w fun e w' => e = .returned (.bool true) ∧ Below w.heap.size w w' := by
  have d0 : (20000 : Int) < (s.size : Int) := by omega
  clear hs20
  have bA : Below w.heap.size w (w.alloc (.cells #[.int .i64 kd, .int .i64 N, .int .i64 C, .slice wa wn wc, .slice va vn vc, .slice ca cn cc] 25)) := bl_al (Below.refl _ _) _
  have HC := Lib.hid (ip.refcopy_any kd N C wl vl cl wa va ca wn vn cn wc vc cc _ (h1.keep bA) (h2.keep bA) (h3.keep bA))
  have HT := Lib.hid (tab_st ht bA)
  have HB := Lib.hid bA
  have hp := ip.tab_pos ht
  have l1 := src_len h1
  have l2 := src_len h2
  have l3 := rsrc_len h3
  have HP10 := Lib.hid parses_any
  have W9 := Lib.hid hW
  clear h1 h2 h3 bA ht hW
  go_enter Tryd.func3, Tryd.ntmps3
  go_wp2_with fail
  refine HC.out.mono ?_; rintro e w1 ⟨g1, k1, g2, k2, ca', cc', rfl, hb, i1, i2, rw, -⟩
  have q0 : w1.heap[w.heap.size]? = some (.cells #[.int .i64 kd, .int .i64 N, .int .i64 C, .slice wa wn wc, .slice va vn vc, .slice ca cn cc] 25 (0, 0)) := (hb.block _ (by simp)).trans (heap_alloc_new w _)
  have Q := Lib.hid q0
  have SB := Lib.hid (store_bx (k1 := k1) (k2 := k2) (cc := cc') (K := kd) (N := N) (C := C) (Nat.le_refl _) q0 (bl_tr HB.out hb) i1 i2 rw _ rfl)
  have TX := Lib.hid (tab_st HT.out (bl_tr (Below.refl _ _) hb))
  have TY := Lib.hid (ip.tab_b TX.out (ip.six_below (Below.refl w.heap.size w1) (Nat.le_refl _) (.int .i64 kd) (.int .i64 N) (.int .i64 C) (.slice (some ⟨g1, 0, none⟩) wl.length k1) (.slice (some ⟨g2, 0, none⟩) vl.length k2) (.slice ca' cl.length cc')) hp)
  clear hb i1 i2 rw q0 HC HT HB TX
  obtain ⟨c0, c1, c2, c3, c4, c5⟩ := ip.box6 Q.out
  have cf := ip.fr6 Q.out
  have hs := lt_blk Q.out
  go_upto_region 2 with fail
  clear c0 c1 c2 c3 c4 c5 cf
  generalize ((((((w1.setCell ⟨w.heap.size, 0, none⟩ (.int .i64 kd)).setCell ⟨w.heap.size, 1, none⟩ (.int .i64 N)).setCell ⟨w.heap.size, 2, none⟩ (.int .i64 C)).setCell ⟨w.heap.size, 3, none⟩ (.slice (some ⟨g1, 0, none⟩) wl.length k1)).setCell ⟨w.heap.size, 4, none⟩ (.slice (some ⟨g2, 0, none⟩) vl.length k2)).setCell ⟨w.heap.size, 5, none⟩ (.slice ca' cl.length cc')) = X at SB TY ⊢
  have BX := Lib.hid SB.out.1
  have XB := Lib.hid SB.out.2
  clear SB Q hs hp
  obtain ⟨c0, c1, c2, c3, c4, c5⟩ := ip.box6 BX.out.box
  go_wp2_with fail
  refine (W9.out _ _ _ _ _ _ _ TY.out BX.out.i1 BX.out.i2 BX.out.i3).mono ?_; rintro e w2 ⟨rfl, hb2⟩
  have B2 := Lib.hid (XB.out.trans (hb2.mono XB.out.size))
  have T2 := Lib.hid (tab_st TY.out hb2)
  have X2 := Lib.hid (BX.out.keep hb2)
  clear hb2 BX XB TY W9 c0 c1 c2 c3 c4 c5
  go_wp2_with fail
  refine (HP10.out _).mono ?_; rintro e w3 ⟨rfl, hb3⟩
  have B3 := Lib.hid (B2.out.trans (hb3.mono B2.out.size))
  have T3 := Lib.hid (tab_st T2.out hb3)
  have X3 := Lib.hid (X2.out.keep hb3)
  clear hb3 B2 T2 X2
  go_wp2_with fail
  refine (HP10.out _).mono ?_; rintro e w4 ⟨rfl, hb4⟩
  have B4 := Lib.hid (B3.out.trans (hb4.mono B3.out.size))
  clear hb4 B3 T3 X3
  go_wp2
  go_ret
  exact ⟨rfl, B4.out⟩
set_option maxRecDepth 100000 in
set_option maxHeartbeats 2000000 in
theorem back_eb (kd N C : Int) (wl vl : List Int) (cl : List (List Int)) (wa va ca : Option Addr) (wn vn cn wc vc cc : Nat) (s : ByteArray) (w : World) (ht : Tab w) (h1 : Src w wa wn wc wl) (h2 : Src w va vn vc vl) (h3 : RSrc w ca cn cc cl) (t : ByteArray) (er : Int) (hW : ∀ (wa va ca : Option Addr) (wc vc cc : Nat) (w : World), Tab w → Ints w wa wl → Ints w va vl → Rws w ca cl → Calls Tryd.prog 9 #[.agg #[.int .i64 kd, .int .i64 N, .int .i64 C, .slice wa wl.length wc, .slice va vl.length vc, .slice ca cl.length cc]] w (WPost t er w)) (hs20 : ¬ 20000 < s.size) (he : er ≠ 0) (q : Nat) (f : Int) (hf : f ≠ 0) (hX : PXX s = .bad q f) :
    Calls Tryd.prog 3 #[.agg #[.int .i64 kd, .int .i64 N, .int .i64 C, .slice wa wn wc, .slice va vn vc, .slice ca cn cc], .string s] w fun e w' => e = .returned (.bool true) ∧ Below w.heap.size w w' := by
  have d0 : ¬ (20000 : Int) < (s.size : Int) := by omega
  clear hs20
  have dE : (er == 0) = false := by simpa using he
  have HP2 := Lib.hid (fun W => parse_any s W)
  rw [hX] at HP2
  clear hX
  have dF : (f != 0) = true := by simpa using hf
  have bA : Below w.heap.size w (w.alloc (.cells #[.int .i64 kd, .int .i64 N, .int .i64 C, .slice wa wn wc, .slice va vn vc, .slice ca cn cc] 25)) := bl_al (Below.refl _ _) _
  have HC := Lib.hid (ip.refcopy_any kd N C wl vl cl wa va ca wn vn cn wc vc cc _ (h1.keep bA) (h2.keep bA) (h3.keep bA))
  have HT := Lib.hid (tab_st ht bA)
  have HB := Lib.hid bA
  have hp := ip.tab_pos ht
  have l1 := src_len h1
  have l2 := src_len h2
  have l3 := rsrc_len h3
  have HP10 := Lib.hid parses_any
  have W9 := Lib.hid hW
  clear h1 h2 h3 bA ht hW
  go_enter Tryd.func3, Tryd.ntmps3
  go_wp2_with fail
  refine HC.out.mono ?_; rintro e w1 ⟨g1, k1, g2, k2, ca', cc', rfl, hb, i1, i2, rw, -⟩
  have q0 : w1.heap[w.heap.size]? = some (.cells #[.int .i64 kd, .int .i64 N, .int .i64 C, .slice wa wn wc, .slice va vn vc, .slice ca cn cc] 25 (0, 0)) := (hb.block _ (by simp)).trans (heap_alloc_new w _)
  have Q := Lib.hid q0
  have SB := Lib.hid (store_bx (k1 := k1) (k2 := k2) (cc := cc') (K := kd) (N := N) (C := C) (Nat.le_refl _) q0 (bl_tr HB.out hb) i1 i2 rw _ rfl)
  have TX := Lib.hid (tab_st HT.out (bl_tr (Below.refl _ _) hb))
  have TY := Lib.hid (ip.tab_b TX.out (ip.six_below (Below.refl w.heap.size w1) (Nat.le_refl _) (.int .i64 kd) (.int .i64 N) (.int .i64 C) (.slice (some ⟨g1, 0, none⟩) wl.length k1) (.slice (some ⟨g2, 0, none⟩) vl.length k2) (.slice ca' cl.length cc')) hp)
  clear hb i1 i2 rw q0 HC HT HB TX
  obtain ⟨c0, c1, c2, c3, c4, c5⟩ := ip.box6 Q.out
  have cf := ip.fr6 Q.out
  have hs := lt_blk Q.out
  go_upto_region 2 with fail
  clear c0 c1 c2 c3 c4 c5 cf
  generalize ((((((w1.setCell ⟨w.heap.size, 0, none⟩ (.int .i64 kd)).setCell ⟨w.heap.size, 1, none⟩ (.int .i64 N)).setCell ⟨w.heap.size, 2, none⟩ (.int .i64 C)).setCell ⟨w.heap.size, 3, none⟩ (.slice (some ⟨g1, 0, none⟩) wl.length k1)).setCell ⟨w.heap.size, 4, none⟩ (.slice (some ⟨g2, 0, none⟩) vl.length k2)).setCell ⟨w.heap.size, 5, none⟩ (.slice ca' cl.length cc')) = X at SB TY ⊢
  have BX := Lib.hid SB.out.1
  have XB := Lib.hid SB.out.2
  clear SB Q hs hp
  obtain ⟨c0, c1, c2, c3, c4, c5⟩ := ip.box6 BX.out.box
  go_wp2_with fail
  refine (W9.out _ _ _ _ _ _ _ TY.out BX.out.i1 BX.out.i2 BX.out.i3).mono ?_; rintro e w2 ⟨rfl, hb2⟩
  have B2 := Lib.hid (XB.out.trans (hb2.mono XB.out.size))
  have T2 := Lib.hid (tab_st TY.out hb2)
  have X2 := Lib.hid (BX.out.keep hb2)
  clear hb2 BX XB TY W9 c0 c1 c2 c3 c4 c5
  go_wp2_with fail
  refine (HP10.out _).mono ?_; rintro e w3 ⟨rfl, hb3⟩
  have B3 := Lib.hid (B2.out.trans (hb3.mono B2.out.size))
  have T3 := Lib.hid (tab_st T2.out hb3)
  have X3 := Lib.hid (X2.out.keep hb3)
  clear hb3 B2 T2 X2
  have B5 := Lib.hid B3.out
  have T5 := Lib.hid T3.out
  clear B3 T3 X3
  go_wp2_with fail
  refine (HP2.out _).mono ?_
  rintro e w6 ⟨rfl, hB6⟩
  have B6 := Lib.hid (bl_al (bl_tr B5.out hB6) (.cells #[.int .i64 0, .int .i64 0, .int .i64 0, .slice none 0 0, .slice none 0 0, .slice none 0 0] 25))
  clear B5 T5 hB6 HP2
  go_wp2
  go_ret
  exact ⟨rfl, B6.out⟩
set_option maxRecDepth 100000 in
set_option maxHeartbeats 2000000 in
theorem back_eo (kd N C : Int) (wl vl : List Int) (cl : List (List Int)) (wa va ca : Option Addr) (wn vn cn wc vc cc : Nat) (s : ByteArray) (w : World) (ht : Tab w) (h1 : Src w wa wn wc wl) (h2 : Src w va vn vc vl) (h3 : RSrc w ca cn cc cl) (t : ByteArray) (er : Int) (hW : ∀ (wa va ca : Option Addr) (wc vc cc : Nat) (w : World), Tab w → Ints w wa wl → Ints w va vl → Rws w ca cl → Calls Tryd.prog 9 #[.agg #[.int .i64 kd, .int .i64 N, .int .i64 C, .slice wa wl.length wc, .slice va vl.length vc, .slice ca cl.length cc]] w (WPost t er w)) (hs20 : ¬ 20000 < s.size) (he : er ≠ 0) (K' C' : Int) (n' : Nat) (wl' vl' : List Int) (cl' : List (List Int)) (hX : PXX s = .ok K' n' C' wl' vl' cl') :
    Calls Tryd.prog 3 #[.agg #[.int .i64 kd, .int .i64 N, .int .i64 C, .slice wa wn wc, .slice va vn vc, .slice ca cn cc], .string s] w fun e w' => e = .returned (.bool true) ∧ Below w.heap.size w w' := by
  have d0 : ¬ (20000 : Int) < (s.size : Int) := by omega
  clear hs20
  have dE : (er == 0) = false := by simpa using he
  have HP2 := Lib.hid (fun W => parse_any s W)
  rw [hX] at HP2
  have hF' := pxx_fm hX
  have HF2 := Lib.hid hF'
  have HZ2 := Lib.hid hF'.chk
  have HP3 := Lib.hid (fun W => parse_any ⟨(wtx K' n' C' wl' vl' cl').toArray⟩ W)
  rw [hF'.xback] at HP3
  obtain ⟨m1, m2, m3⟩ := pxx_len hX
  clear hX hF'
  have bA : Below w.heap.size w (w.alloc (.cells #[.int .i64 kd, .int .i64 N, .int .i64 C, .slice wa wn wc, .slice va vn vc, .slice ca cn cc] 25)) := bl_al (Below.refl _ _) _
  have HC := Lib.hid (ip.refcopy_any kd N C wl vl cl wa va ca wn vn cn wc vc cc _ (h1.keep bA) (h2.keep bA) (h3.keep bA))
  have HT := Lib.hid (tab_st ht bA)
  have HB := Lib.hid bA
  have hp := ip.tab_pos ht
  have l1 := src_len h1
  have l2 := src_len h2
  have l3 := rsrc_len h3
  have HP10 := Lib.hid parses_any
  have W9 := Lib.hid hW
  clear h1 h2 h3 bA ht hW
  go_enter Tryd.func3, Tryd.ntmps3
  go_wp2_with fail
  refine HC.out.mono ?_; rintro e w1 ⟨g1, k1, g2, k2, ca', cc', rfl, hb, i1, i2, rw, -⟩
  have q0 : w1.heap[w.heap.size]? = some (.cells #[.int .i64 kd, .int .i64 N, .int .i64 C, .slice wa wn wc, .slice va vn vc, .slice ca cn cc] 25 (0, 0)) := (hb.block _ (by simp)).trans (heap_alloc_new w _)
  have Q := Lib.hid q0
  have SB := Lib.hid (store_bx (k1 := k1) (k2 := k2) (cc := cc') (K := kd) (N := N) (C := C) (Nat.le_refl _) q0 (bl_tr HB.out hb) i1 i2 rw _ rfl)
  have TX := Lib.hid (tab_st HT.out (bl_tr (Below.refl _ _) hb))
  have TY := Lib.hid (ip.tab_b TX.out (ip.six_below (Below.refl w.heap.size w1) (Nat.le_refl _) (.int .i64 kd) (.int .i64 N) (.int .i64 C) (.slice (some ⟨g1, 0, none⟩) wl.length k1) (.slice (some ⟨g2, 0, none⟩) vl.length k2) (.slice ca' cl.length cc')) hp)
  clear hb i1 i2 rw q0 HC HT HB TX
  obtain ⟨c0, c1, c2, c3, c4, c5⟩ := ip.box6 Q.out
  have cf := ip.fr6 Q.out
  have hs := lt_blk Q.out
  go_upto_region 2 with fail
  clear c0 c1 c2 c3 c4 c5 cf
  generalize ((((((w1.setCell ⟨w.heap.size, 0, none⟩ (.int .i64 kd)).setCell ⟨w.heap.size, 1, none⟩ (.int .i64 N)).setCell ⟨w.heap.size, 2, none⟩ (.int .i64 C)).setCell ⟨w.heap.size, 3, none⟩ (.slice (some ⟨g1, 0, none⟩) wl.length k1)).setCell ⟨w.heap.size, 4, none⟩ (.slice (some ⟨g2, 0, none⟩) vl.length k2)).setCell ⟨w.heap.size, 5, none⟩ (.slice ca' cl.length cc')) = X at SB TY ⊢
  have BX := Lib.hid SB.out.1
  have XB := Lib.hid SB.out.2
  clear SB Q hs hp
  obtain ⟨c0, c1, c2, c3, c4, c5⟩ := ip.box6 BX.out.box
  go_wp2_with fail
  refine (W9.out _ _ _ _ _ _ _ TY.out BX.out.i1 BX.out.i2 BX.out.i3).mono ?_; rintro e w2 ⟨rfl, hb2⟩
  have B2 := Lib.hid (XB.out.trans (hb2.mono XB.out.size))
  have T2 := Lib.hid (tab_st TY.out hb2)
  have X2 := Lib.hid (BX.out.keep hb2)
  clear hb2 BX XB TY W9 c0 c1 c2 c3 c4 c5
  go_wp2_with fail
  refine (HP10.out _).mono ?_; rintro e w3 ⟨rfl, hb3⟩
  have B3 := Lib.hid (B2.out.trans (hb3.mono B2.out.size))
  have T3 := Lib.hid (tab_st T2.out hb3)
  have X3 := Lib.hid (X2.out.keep hb3)
  clear hb3 B2 T2 X2
  have B5 := Lib.hid B3.out
  have T5 := Lib.hid T3.out
  clear B3 T3 X3
  go_wp2_with fail
  refine (HP2.out _).mono ?_
  rintro e w6 ⟨v, rfl, hV, hB6⟩
  obtain ⟨xb, yb, zb, xd, yd, zd, rfl, i1, i2, i3⟩ := hV.lists (by omega)
  have Z := Lib.hid (Bx.new (K := K') (N := n') (C := C') (wc := xd) (vc := yd) (cc := zd) i1 i2 i3)
  have bz : Below w6.heap.size w6 (w6.alloc (.cells #[.int .i64 K', .int .i64 n', .int .i64 C', .slice xb wl'.length xd, .slice yb vl'.length yd, .slice zb cl'.length zd] 25)) := bl_al (Below.refl _ _) _
  have BY := Lib.hid (bl_tr hB6 bz)
  clear hB6 hV i1 i2 i3 bz HP2
  go_upto_region 12 with fail
  generalize w6.alloc (.cells #[.int .i64 K', .int .i64 n', .int .i64 C', .slice xb wl'.length xd, .slice yb vl'.length yd, .slice zb cl'.length zd] 25) = Y2 at Z BY ⊢
  have T6 := Lib.hid (tab_st T5.out BY.out)
  have B6 := Lib.hid (B5.out.trans (BY.out.mono B5.out.size))
  clear T5 B5 BY
  have HW := Lib.hid (write_fm HF2.out xb yb zb xd yd zd Y2 T6.out Z.out.i1 Z.out.i2 Z.out.i3)
  obtain ⟨d0, d1, d2, d3, d4, d5⟩ := ip.box6 Z.out.box
  go_wp2_with fail
  refine HW.out.mono ?_; rintro e w7 ⟨rfl, hb7⟩
  have Z7 := Lib.hid (Z.out.keep hb7)
  have B7 := Lib.hid (B6.out.trans (hb7.mono B6.out.size))
  clear hb7 Z B6 T6 HW d0 d1 d2 d3 d4 d5
  go_wp2_with fail
  refine (HP3.out _).mono ?_
  rintro e w8 ⟨v, rfl, hV, hB8⟩
  obtain ⟨xe, ye, ze, xf, yf, zf, rfl, i1, i2, i3⟩ := hV.lists (by omega)
  have U := Lib.hid (Bx.new (K := K') (N := n') (C := C') (wc := xf) (vc := yf) (cc := zf) i1 i2 i3)
  have bz : Below w8.heap.size w8 (w8.alloc (.cells #[.int .i64 K', .int .i64 n', .int .i64 C', .slice xe wl'.length xf, .slice ye vl'.length yf, .slice ze cl'.length zf] 25)) := bl_al (Below.refl _ _) _
  have BY := Lib.hid (bl_tr hB8 bz)
  clear hB8 hV i1 i2 i3 bz HP3
  go_upto_region 14 with fail
  generalize w8.alloc (.cells #[.int .i64 K', .int .i64 n', .int .i64 C', .slice xe wl'.length xf, .slice ye vl'.length yf, .slice ze cl'.length zf] 25) = Y3 at U BY ⊢
  have Z8 := Lib.hid (Z7.out.keep BY.out)
  have B8 := Lib.hid (B7.out.trans (BY.out.mono B7.out.size))
  clear Z7 B7 BY
  obtain ⟨d0, d1, d2, d3, d4, d5⟩ := ip.box6 Z8.out.box
  have HK := Lib.hid (ip.check_any K' n' C' wl' vl' cl' xb yb zb xd yd zd Y3 Z8.out.i1 Z8.out.i2 Z8.out.i3 (by omega) (by omega) (by omega))
  rw [HZ2.out] at HK
  go_wp2_with fail
  refine HK.out.mono ?_; rintro e w9 ⟨rfl, hb9⟩
  have Z9 := Lib.hid (Z8.out.keep hb9)
  have U9 := Lib.hid (U.out.keep hb9)
  have B9 := Lib.hid (B8.out.trans (hb9.mono B8.out.size))
  clear hb9 Z8 U B8 HK d0 d1 d2 d3 d4 d5
  obtain ⟨c0, c1, c2, c3, c4, c5⟩ := ip.box6 U9.out.box
  obtain ⟨d0, d1, d2, d3, d4, d5⟩ := ip.box6 Z9.out.box
  have HS := Lib.hid (ip.same_any true K' n' C' K' n' C' wl' vl' wl' vl' cl' cl' (by simp) xe ye ze xb yb zb xf yf zf xd yd zd w9 U9.out.i1 U9.out.i2 U9.out.i3 Z9.out.i1 Z9.out.i2 Z9.out.i3 (by omega) (by omega) (by omega) (by omega) (by omega))
  go_wp2_with fail
  refine HS.out.mono ?_; rintro e wA ⟨rfl, hbA⟩
  have BA := Lib.hid (B9.out.trans (hbA.mono B9.out.size))
  clear hbA U9 Z9 B9 HS c0 c1 c2 c3 c4 c5 d0 d1 d2 d3 d4 d5
  go_wp2
  go_ret
  exact ⟨rfl, BA.out⟩
set_option maxRecDepth 100000 in
set_option maxHeartbeats 2000000 in
theorem back_ob (kd C : Int) (n : Nat) (wl vl : List Int) (cl : List (List Int)) (wa va ca : Option Addr) (wn vn cn wc vc cc : Nat) (s : ByteArray) (w : World) (ht : Tab w) (h1 : Src w wa wn wc wl) (h2 : Src w va vn vc vl) (h3 : RSrc w ca cn cc cl) (hW : ∀ (wa va ca : Option Addr) (wc vc cc : Nat) (w : World), Tab w → Ints w wa wl → Ints w va vl → Rws w ca cl → Calls Tryd.prog 9 #[.agg #[.int .i64 kd, .int .i64 n, .int .i64 C, .slice wa wl.length wc, .slice va vl.length vc, .slice ca cl.length cc]] w (WPost ⟨(wtx kd n C wl vl cl).toArray⟩ 0 w)) (hF : Fm kd n C wl vl cl) (hs20 : ¬ 20000 < s.size) (q : Nat) (f : Int) (hf : f ≠ 0) (hX : PXX s = .bad q f) :
    Calls Tryd.prog 3 #[.agg #[.int .i64 kd, .int .i64 n, .int .i64 C, .slice wa wn wc, .slice va vn vc, .slice ca cn cc], .string s] w fun e w' => e = .returned (.bool true) ∧ Below w.heap.size w w' := by
  have d0 : ¬ (20000 : Int) < (s.size : Int) := by omega
  clear hs20
  have HP1 := Lib.hid (fun W => parse_any ⟨(wtx kd n C wl vl cl).toArray⟩ W)
  rw [hF.xback] at HP1
  clear hF
  have HP2 := Lib.hid (fun W => parse_any s W)
  rw [hX] at HP2
  clear hX
  have dF : (f != 0) = true := by simpa using hf
  have bA : Below w.heap.size w (w.alloc (.cells #[.int .i64 kd, .int .i64 n, .int .i64 C, .slice wa wn wc, .slice va vn vc, .slice ca cn cc] 25)) := bl_al (Below.refl _ _) _
  have HC := Lib.hid (ip.refcopy_any kd n C wl vl cl wa va ca wn vn cn wc vc cc _ (h1.keep bA) (h2.keep bA) (h3.keep bA))
  have HT := Lib.hid (tab_st ht bA)
  have HB := Lib.hid bA
  have hp := ip.tab_pos ht
  have l1 := src_len h1
  have l2 := src_len h2
  have l3 := rsrc_len h3
  have HP10 := Lib.hid parses_any
  have W9 := Lib.hid hW
  clear h1 h2 h3 bA ht hW
  go_enter Tryd.func3, Tryd.ntmps3
  go_wp2_with fail
  refine HC.out.mono ?_; rintro e w1 ⟨g1, k1, g2, k2, ca', cc', rfl, hb, i1, i2, rw, -⟩
  have q0 : w1.heap[w.heap.size]? = some (.cells #[.int .i64 kd, .int .i64 n, .int .i64 C, .slice wa wn wc, .slice va vn vc, .slice ca cn cc] 25 (0, 0)) := (hb.block _ (by simp)).trans (heap_alloc_new w _)
  have Q := Lib.hid q0
  have SB := Lib.hid (store_bx (k1 := k1) (k2 := k2) (cc := cc') (K := kd) (N := n) (C := C) (Nat.le_refl _) q0 (bl_tr HB.out hb) i1 i2 rw _ rfl)
  have TX := Lib.hid (tab_st HT.out (bl_tr (Below.refl _ _) hb))
  have TY := Lib.hid (ip.tab_b TX.out (ip.six_below (Below.refl w.heap.size w1) (Nat.le_refl _) (.int .i64 kd) (.int .i64 n) (.int .i64 C) (.slice (some ⟨g1, 0, none⟩) wl.length k1) (.slice (some ⟨g2, 0, none⟩) vl.length k2) (.slice ca' cl.length cc')) hp)
  clear hb i1 i2 rw q0 HC HT HB TX
  obtain ⟨c0, c1, c2, c3, c4, c5⟩ := ip.box6 Q.out
  have cf := ip.fr6 Q.out
  have hs := lt_blk Q.out
  go_upto_region 2 with fail
  clear c0 c1 c2 c3 c4 c5 cf
  generalize ((((((w1.setCell ⟨w.heap.size, 0, none⟩ (.int .i64 kd)).setCell ⟨w.heap.size, 1, none⟩ (.int .i64 n)).setCell ⟨w.heap.size, 2, none⟩ (.int .i64 C)).setCell ⟨w.heap.size, 3, none⟩ (.slice (some ⟨g1, 0, none⟩) wl.length k1)).setCell ⟨w.heap.size, 4, none⟩ (.slice (some ⟨g2, 0, none⟩) vl.length k2)).setCell ⟨w.heap.size, 5, none⟩ (.slice ca' cl.length cc')) = X at SB TY ⊢
  have BX := Lib.hid SB.out.1
  have XB := Lib.hid SB.out.2
  clear SB Q hs hp
  obtain ⟨c0, c1, c2, c3, c4, c5⟩ := ip.box6 BX.out.box
  go_wp2_with fail
  refine (W9.out _ _ _ _ _ _ _ TY.out BX.out.i1 BX.out.i2 BX.out.i3).mono ?_; rintro e w2 ⟨rfl, hb2⟩
  have B2 := Lib.hid (XB.out.trans (hb2.mono XB.out.size))
  have T2 := Lib.hid (tab_st TY.out hb2)
  have X2 := Lib.hid (BX.out.keep hb2)
  clear hb2 BX XB TY W9 c0 c1 c2 c3 c4 c5
  go_wp2_with fail
  refine (HP10.out _).mono ?_; rintro e w3 ⟨rfl, hb3⟩
  have B3 := Lib.hid (B2.out.trans (hb3.mono B2.out.size))
  have T3 := Lib.hid (tab_st T2.out hb3)
  have X3 := Lib.hid (X2.out.keep hb3)
  clear hb3 B2 T2 X2
  go_wp2_with fail
  refine (HP1.out _).mono ?_
  rintro e w4 ⟨v, rfl, hV, hB4⟩
  obtain ⟨wb, vb, cb, wd, vd, cd, rfl, i1, i2, i3⟩ := hV.lists (by omega)
  have Z := Lib.hid (Bx.new (K := kd) (N := n) (C := C) (wc := wd) (vc := vd) (cc := cd) i1 i2 i3)
  have bz : Below w4.heap.size w4 (w4.alloc (.cells #[.int .i64 kd, .int .i64 n, .int .i64 C, .slice wb wl.length wd, .slice vb vl.length vd, .slice cb cl.length cd] 25)) := bl_al (Below.refl _ _) _
  have BY := Lib.hid (bl_tr hB4 bz)
  clear hB4 hV i1 i2 i3 bz HP1
  go_upto_region 7 with fail
  generalize w4.alloc (.cells #[.int .i64 kd, .int .i64 n, .int .i64 C, .slice wb wl.length wd, .slice vb vl.length vd, .slice cb cl.length cd] 25) = Y at Z BY ⊢
  have X4 := Lib.hid (X3.out.keep BY.out)
  have T4 := Lib.hid (tab_st T3.out BY.out)
  have B4 := Lib.hid (B3.out.trans (BY.out.mono B3.out.size))
  clear X3 T3 B3 BY
  obtain ⟨c0, c1, c2, c3, c4, c5⟩ := ip.box6 X4.out.box
  obtain ⟨d0, d1, d2, d3, d4, d5⟩ := ip.box6 Z.out.box
  have HS := Lib.hid (ip.same_any true kd n C kd n C wl vl wl vl cl cl (by simp) wb vb cb (some ⟨g1, 0, none⟩) (some ⟨g2, 0, none⟩) ca' wd vd cd k1 k2 cc' Y Z.out.i1 Z.out.i2 Z.out.i3 X4.out.i1 X4.out.i2 X4.out.i3 (by omega) (by omega) (by omega) (by omega) (by omega))
  go_wp2_with fail
  refine HS.out.mono ?_; rintro e w5 ⟨rfl, hb5⟩
  have B5 := Lib.hid (B4.out.trans (hb5.mono B4.out.size))
  have T5 := Lib.hid (tab_st T4.out hb5)
  clear hb5 X4 T4 B4 Z HS c0 c1 c2 c3 c4 c5 d0 d1 d2 d3 d4 d5
  go_wp2_with fail
  refine (HP2.out _).mono ?_
  rintro e w6 ⟨rfl, hB6⟩
  have B6 := Lib.hid (bl_al (bl_tr B5.out hB6) (.cells #[.int .i64 0, .int .i64 0, .int .i64 0, .slice none 0 0, .slice none 0 0, .slice none 0 0] 25))
  clear B5 T5 hB6 HP2
  go_wp2
  go_ret
  exact ⟨rfl, B6.out⟩
set_option maxRecDepth 100000 in
set_option maxHeartbeats 2000000 in
theorem back_oo (kd C : Int) (n : Nat) (wl vl : List Int) (cl : List (List Int)) (wa va ca : Option Addr) (wn vn cn wc vc cc : Nat) (s : ByteArray) (w : World) (ht : Tab w) (h1 : Src w wa wn wc wl) (h2 : Src w va vn vc vl) (h3 : RSrc w ca cn cc cl) (hW : ∀ (wa va ca : Option Addr) (wc vc cc : Nat) (w : World), Tab w → Ints w wa wl → Ints w va vl → Rws w ca cl → Calls Tryd.prog 9 #[.agg #[.int .i64 kd, .int .i64 n, .int .i64 C, .slice wa wl.length wc, .slice va vl.length vc, .slice ca cl.length cc]] w (WPost ⟨(wtx kd n C wl vl cl).toArray⟩ 0 w)) (hF : Fm kd n C wl vl cl) (hs20 : ¬ 20000 < s.size) (K' C' : Int) (n' : Nat) (wl' vl' : List Int) (cl' : List (List Int)) (hX : PXX s = .ok K' n' C' wl' vl' cl') :
    Calls Tryd.prog 3 #[.agg #[.int .i64 kd, .int .i64 n, .int .i64 C, .slice wa wn wc, .slice va vn vc, .slice ca cn cc], .string s] w fun e w' => e = .returned (.bool true) ∧ Below w.heap.size w w' := by
  have d0 : ¬ (20000 : Int) < (s.size : Int) := by omega
  clear hs20
  have HP1 := Lib.hid (fun W => parse_any ⟨(wtx kd n C wl vl cl).toArray⟩ W)
  rw [hF.xback] at HP1
  clear hF
  have HP2 := Lib.hid (fun W => parse_any s W)
  rw [hX] at HP2
  have hF' := pxx_fm hX
  have HF2 := Lib.hid hF'
  have HZ2 := Lib.hid hF'.chk
  have HP3 := Lib.hid (fun W => parse_any ⟨(wtx K' n' C' wl' vl' cl').toArray⟩ W)
  rw [hF'.xback] at HP3
  obtain ⟨m1, m2, m3⟩ := pxx_len hX
  clear hX hF'
  have bA : Below w.heap.size w (w.alloc (.cells #[.int .i64 kd, .int .i64 n, .int .i64 C, .slice wa wn wc, .slice va vn vc, .slice ca cn cc] 25)) := bl_al (Below.refl _ _) _
  have HC := Lib.hid (ip.refcopy_any kd n C wl vl cl wa va ca wn vn cn wc vc cc _ (h1.keep bA) (h2.keep bA) (h3.keep bA))
  have HT := Lib.hid (tab_st ht bA)
  have HB := Lib.hid bA
  have hp := ip.tab_pos ht
  have l1 := src_len h1
  have l2 := src_len h2
  have l3 := rsrc_len h3
  have HP10 := Lib.hid parses_any
  have W9 := Lib.hid hW
  clear h1 h2 h3 bA ht hW
  go_enter Tryd.func3, Tryd.ntmps3
  go_wp2_with fail
  refine HC.out.mono ?_; rintro e w1 ⟨g1, k1, g2, k2, ca', cc', rfl, hb, i1, i2, rw, -⟩
  have q0 : w1.heap[w.heap.size]? = some (.cells #[.int .i64 kd, .int .i64 n, .int .i64 C, .slice wa wn wc, .slice va vn vc, .slice ca cn cc] 25 (0, 0)) := (hb.block _ (by simp)).trans (heap_alloc_new w _)
  have Q := Lib.hid q0
  have SB := Lib.hid (store_bx (k1 := k1) (k2 := k2) (cc := cc') (K := kd) (N := n) (C := C) (Nat.le_refl _) q0 (bl_tr HB.out hb) i1 i2 rw _ rfl)
  have TX := Lib.hid (tab_st HT.out (bl_tr (Below.refl _ _) hb))
  have TY := Lib.hid (ip.tab_b TX.out (ip.six_below (Below.refl w.heap.size w1) (Nat.le_refl _) (.int .i64 kd) (.int .i64 n) (.int .i64 C) (.slice (some ⟨g1, 0, none⟩) wl.length k1) (.slice (some ⟨g2, 0, none⟩) vl.length k2) (.slice ca' cl.length cc')) hp)
  clear hb i1 i2 rw q0 HC HT HB TX
  obtain ⟨c0, c1, c2, c3, c4, c5⟩ := ip.box6 Q.out
  have cf := ip.fr6 Q.out
  have hs := lt_blk Q.out
  go_upto_region 2 with fail
  clear c0 c1 c2 c3 c4 c5 cf
  generalize ((((((w1.setCell ⟨w.heap.size, 0, none⟩ (.int .i64 kd)).setCell ⟨w.heap.size, 1, none⟩ (.int .i64 n)).setCell ⟨w.heap.size, 2, none⟩ (.int .i64 C)).setCell ⟨w.heap.size, 3, none⟩ (.slice (some ⟨g1, 0, none⟩) wl.length k1)).setCell ⟨w.heap.size, 4, none⟩ (.slice (some ⟨g2, 0, none⟩) vl.length k2)).setCell ⟨w.heap.size, 5, none⟩ (.slice ca' cl.length cc')) = X at SB TY ⊢
  have BX := Lib.hid SB.out.1
  have XB := Lib.hid SB.out.2
  clear SB Q hs hp
  obtain ⟨c0, c1, c2, c3, c4, c5⟩ := ip.box6 BX.out.box
  go_wp2_with fail
  refine (W9.out _ _ _ _ _ _ _ TY.out BX.out.i1 BX.out.i2 BX.out.i3).mono ?_; rintro e w2 ⟨rfl, hb2⟩
  have B2 := Lib.hid (XB.out.trans (hb2.mono XB.out.size))
  have T2 := Lib.hid (tab_st TY.out hb2)
  have X2 := Lib.hid (BX.out.keep hb2)
  clear hb2 BX XB TY W9 c0 c1 c2 c3 c4 c5
  go_wp2_with fail
  refine (HP10.out _).mono ?_; rintro e w3 ⟨rfl, hb3⟩
  have B3 := Lib.hid (B2.out.trans (hb3.mono B2.out.size))
  have T3 := Lib.hid (tab_st T2.out hb3)
  have X3 := Lib.hid (X2.out.keep hb3)
  clear hb3 B2 T2 X2
  go_wp2_with fail
  refine (HP1.out _).mono ?_
  rintro e w4 ⟨v, rfl, hV, hB4⟩
  obtain ⟨wb, vb, cb, wd, vd, cd, rfl, i1, i2, i3⟩ := hV.lists (by omega)
  have Z := Lib.hid (Bx.new (K := kd) (N := n) (C := C) (wc := wd) (vc := vd) (cc := cd) i1 i2 i3)
  have bz : Below w4.heap.size w4 (w4.alloc (.cells #[.int .i64 kd, .int .i64 n, .int .i64 C, .slice wb wl.length wd, .slice vb vl.length vd, .slice cb cl.length cd] 25)) := bl_al (Below.refl _ _) _
  have BY := Lib.hid (bl_tr hB4 bz)
  clear hB4 hV i1 i2 i3 bz HP1
  go_upto_region 7 with fail
  generalize w4.alloc (.cells #[.int .i64 kd, .int .i64 n, .int .i64 C, .slice wb wl.length wd, .slice vb vl.length vd, .slice cb cl.length cd] 25) = Y at Z BY ⊢
  have X4 := Lib.hid (X3.out.keep BY.out)
  have T4 := Lib.hid (tab_st T3.out BY.out)
  have B4 := Lib.hid (B3.out.trans (BY.out.mono B3.out.size))
  clear X3 T3 B3 BY
  obtain ⟨c0, c1, c2, c3, c4, c5⟩ := ip.box6 X4.out.box
  obtain ⟨d0, d1, d2, d3, d4, d5⟩ := ip.box6 Z.out.box
  have HS := Lib.hid (ip.same_any true kd n C kd n C wl vl wl vl cl cl (by simp) wb vb cb (some ⟨g1, 0, none⟩) (some ⟨g2, 0, none⟩) ca' wd vd cd k1 k2 cc' Y Z.out.i1 Z.out.i2 Z.out.i3 X4.out.i1 X4.out.i2 X4.out.i3 (by omega) (by omega) (by omega) (by omega) (by omega))
  go_wp2_with fail
  refine HS.out.mono ?_; rintro e w5 ⟨rfl, hb5⟩
  have B5 := Lib.hid (B4.out.trans (hb5.mono B4.out.size))
  have T5 := Lib.hid (tab_st T4.out hb5)
  clear hb5 X4 T4 B4 Z HS c0 c1 c2 c3 c4 c5 d0 d1 d2 d3 d4 d5
  go_wp2_with fail
  refine (HP2.out _).mono ?_
  rintro e w6 ⟨v, rfl, hV, hB6⟩
  obtain ⟨xb, yb, zb, xd, yd, zd, rfl, i1, i2, i3⟩ := hV.lists (by omega)
  have Z := Lib.hid (Bx.new (K := K') (N := n') (C := C') (wc := xd) (vc := yd) (cc := zd) i1 i2 i3)
  have bz : Below w6.heap.size w6 (w6.alloc (.cells #[.int .i64 K', .int .i64 n', .int .i64 C', .slice xb wl'.length xd, .slice yb vl'.length yd, .slice zb cl'.length zd] 25)) := bl_al (Below.refl _ _) _
  have BY := Lib.hid (bl_tr hB6 bz)
  clear hB6 hV i1 i2 i3 bz HP2
  go_upto_region 12 with fail
  generalize w6.alloc (.cells #[.int .i64 K', .int .i64 n', .int .i64 C', .slice xb wl'.length xd, .slice yb vl'.length yd, .slice zb cl'.length zd] 25) = Y2 at Z BY ⊢
  have T6 := Lib.hid (tab_st T5.out BY.out)
  have B6 := Lib.hid (B5.out.trans (BY.out.mono B5.out.size))
  clear T5 B5 BY
  have HW := Lib.hid (write_fm HF2.out xb yb zb xd yd zd Y2 T6.out Z.out.i1 Z.out.i2 Z.out.i3)
  obtain ⟨d0, d1, d2, d3, d4, d5⟩ := ip.box6 Z.out.box
  go_wp2_with fail
  refine HW.out.mono ?_; rintro e w7 ⟨rfl, hb7⟩
  have Z7 := Lib.hid (Z.out.keep hb7)
  have B7 := Lib.hid (B6.out.trans (hb7.mono B6.out.size))
  clear hb7 Z B6 T6 HW d0 d1 d2 d3 d4 d5
  go_wp2_with fail
  refine (HP3.out _).mono ?_
  rintro e w8 ⟨v, rfl, hV, hB8⟩
  obtain ⟨xe, ye, ze, xf, yf, zf, rfl, i1, i2, i3⟩ := hV.lists (by omega)
  have U := Lib.hid (Bx.new (K := K') (N := n') (C := C') (wc := xf) (vc := yf) (cc := zf) i1 i2 i3)
  have bz : Below w8.heap.size w8 (w8.alloc (.cells #[.int .i64 K', .int .i64 n', .int .i64 C', .slice xe wl'.length xf, .slice ye vl'.length yf, .slice ze cl'.length zf] 25)) := bl_al (Below.refl _ _) _
  have BY := Lib.hid (bl_tr hB8 bz)
  clear hB8 hV i1 i2 i3 bz HP3
  go_upto_region 14 with fail
  generalize w8.alloc (.cells #[.int .i64 K', .int .i64 n', .int .i64 C', .slice xe wl'.length xf, .slice ye vl'.length yf, .slice ze cl'.length zf] 25) = Y3 at U BY ⊢
  have Z8 := Lib.hid (Z7.out.keep BY.out)
  have B8 := Lib.hid (B7.out.trans (BY.out.mono B7.out.size))
  clear Z7 B7 BY
  obtain ⟨d0, d1, d2, d3, d4, d5⟩ := ip.box6 Z8.out.box
  have HK := Lib.hid (ip.check_any K' n' C' wl' vl' cl' xb yb zb xd yd zd Y3 Z8.out.i1 Z8.out.i2 Z8.out.i3 (by omega) (by omega) (by omega))
  rw [HZ2.out] at HK
  go_wp2_with fail
  refine HK.out.mono ?_; rintro e w9 ⟨rfl, hb9⟩
  have Z9 := Lib.hid (Z8.out.keep hb9)
  have U9 := Lib.hid (U.out.keep hb9)
  have B9 := Lib.hid (B8.out.trans (hb9.mono B8.out.size))
  clear hb9 Z8 U B8 HK d0 d1 d2 d3 d4 d5
  obtain ⟨c0, c1, c2, c3, c4, c5⟩ := ip.box6 U9.out.box
  obtain ⟨d0, d1, d2, d3, d4, d5⟩ := ip.box6 Z9.out.box
  have HS := Lib.hid (ip.same_any true K' n' C' K' n' C' wl' vl' wl' vl' cl' cl' (by simp) xe ye ze xb yb zb xf yf zf xd yd zd w9 U9.out.i1 U9.out.i2 U9.out.i3 Z9.out.i1 Z9.out.i2 Z9.out.i3 (by omega) (by omega) (by omega) (by omega) (by omega))
  go_wp2_with fail
  refine HS.out.mono ?_; rintro e wA ⟨rfl, hbA⟩
  have BA := Lib.hid (B9.out.trans (hbA.mono B9.out.size))
  clear hbA U9 Z9 B9 HS c0 c1 c2 c3 c4 c5 d0 d1 d2 d3 d4 d5
  go_wp2
  go_ret
  exact ⟨rfl, BA.out⟩
theorem back_walk (kd N C : Int) (wl vl : List Int) (cl : List (List Int)) (wa va ca : Option Addr) (wn vn cn wc vc cc : Nat) (s : ByteArray) (w : World) (ht : Tab w) (h1 : Src w wa wn wc wl) (h2 : Src w va vn vc vl) (h3 : RSrc w ca cn cc cl) :
    Calls Tryd.prog 3 #[.agg #[.int .i64 kd, .int .i64 N, .int .i64 C, .slice wa wn wc, .slice va vn vc, .slice ca cn cc], .string s] w fun e w' => e = .returned (.bool true) ∧ Below w.heap.size w w' := by
  have l1 := src_len h1
  have l2 := src_len h2
  have l3 := rsrc_len h3
  obtain ⟨t, er, hW, hc⟩ := write_all kd N C wl vl cl (by omega) (by omega) (by omega)
  by_cases hs20 : 20000 < s.size
  · exact back_long kd N C wl vl cl wa va ca wn vn cn wc vc cc s w ht h1 h2 h3 t er hW hs20
  · rcases hc with he | ⟨rfl, n, rfl, hF, rfl⟩
    · cases hX : PXX s with
      | bad q f => exact back_eb kd N C wl vl cl wa va ca wn vn cn wc vc cc s w ht h1 h2 h3 t er hW hs20 he q f (pxx_bad hX) hX
      | ok K' n' C' wl' vl' cl' => exact back_eo kd N C wl vl cl wa va ca wn vn cn wc vc cc s w ht h1 h2 h3 t er hW hs20 he K' C' n' wl' vl' cl' hX
    · cases hX : PXX s with
      | bad q f => exact back_ob kd C n wl vl cl wa va ca wn vn cn wc vc cc s w ht h1 h2 h3 hW hF hs20 q f (pxx_bad hX) hX
      | ok K' n' C' wl' vl' cl' => exact back_oo kd C n wl vl cl wa va ca wn vn cn wc vc cc s w ht h1 h2 h3 hW hF hs20 K' C' n' wl' vl' cl' hX
end Go.Proofs.YtjlaankgfpjeeaaDoor


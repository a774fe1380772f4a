/-
  The walk of kurgantop.KurganTexts.
-/
import Derived.Test.YtjlaankgfpjeeaaDoorStA
import Derived.Test.YtjlaankgfpjeeaaDoorInEqs
import Derived.Deep.Cut
namespace Go.Proofs.YtjlaankgfpjeeaaDoor
open Go.RowKit
open ip (wtx chk chk_zero Tab WPost Src RSrc Ints Rws IntsO RwsO)
set_option linter.unusedVariables false
theorem pcs_len {K : Int} {n : Nat} {C : Int} {wl vl : List Int} {cl : List (List Int)} (h : Fm K n C wl vl cl) : 3 ≤ (pcs K n C wl vl cl).length := by
  have h1 := h.n1
  unfold pcs hdp
  have hq : n ≤ n * n := Nat.le_mul_of_pos_left n h1
  rcases h.k with rfl | rfl | rfl
  · rw [if_pos rfl, if_pos rfl]; simp [kp]
  · rw [if_neg (by decide), if_pos rfl, if_neg (by decide)]; simp [rp]; omega
  · rw [if_neg (by decide), if_neg (by decide), if_neg (by decide)]; simp [rp]
/-- a problem's text has three tokens and the End at least -/
theorem Fm.scans {K : Int} {n : Nat} {C : Int} {wl vl : List Int} {cl : List (List Int)} (h : Fm K n C wl vl cl) : ∃ m : Nat, 3 ≤ m ∧ ∀ W, Calls Tryd.prog 18 #[.string ⟨(wtx K n C wl vl cl).toArray⟩] W fun e W' => ∃ a c, e = .returned (.tuple #[.slice a m c, .int .i64 0, .int .i64 0]) ∧ Below W.heap.size W W' := by
  have hl := wtx_len h
  have hs : SP ⟨(wtx K n C wl vl cl).toArray⟩ 0 [] = .ok (tks 0 (pcs K n C wl vl cl) ++ [⟨3, noText, 0, (txt (pcs K n C wl vl cl)).length⟩]) := by
    rw [← h.text]; exact sp_whole _ h.pieces
  refine ⟨(tks 0 (pcs K n C wl vl cl) ++ [(⟨3, noText, 0, (txt (pcs K n C wl vl cl)).length⟩ : Tok)]).length, by rw [List.length_append, tks_len]; have := pcs_len h; omega, fun W => ?_⟩
  refine (scan_any _ (by rw [mk_size]; omega) W).mono ?_
  intro e W' hP
  rw [hs] at hP
  obtain ⟨v, rfl, hO, hB⟩ := hP
  obtain ⟨g, cap, rfl, -, -⟩ := hO.form (by simp)
  exact ⟨_, _, rfl, hB⟩
set_option maxRecDepth 100000 in
set_option maxHeartbeats 2000000 in
theorem texts_long (s : ByteArray) (hs : 5000 < s.size) (w : World) : Calls Tryd.prog 6 #[.string s] w fun e w' => e = .returned (.bool true) ∧ Below w.heap.size w w' := by
  have d0 : (5000 : Int) < (s.size : Int) := by omega
  have H := Lib.hid ar.stands_any
  clear hs
  go_enter Tryd.func6, Tryd.ntmps6
  go_wp2_with fail
  refine (H.out _).mono ?_
  rintro e w1 ⟨rfl, hB1⟩
  have B1 := Lib.hid hB1
  clear hB1
  go_wp2_with fail
  refine (H.out _).mono ?_
  rintro e w2 ⟨rfl, hB2⟩
  have B2 := Lib.hid (bl_tr B1.out hB2)
  clear hB2 B1 H
  go_wp2
  go_ret
  exact ⟨rfl, B2.out⟩
set_option maxRecDepth 100000 in
set_option maxHeartbeats 2000000 in
theorem texts_bad (s : ByteArray) (hs : ¬ 5000 < s.size) (q : Nat) (f : Int) (hf : f ≠ 0) (hq : q ≤ s.size) (hX : PXX s = .bad q f) (w : World) : Calls Tryd.prog 6 #[.string s] w fun e w' => e = .returned (.bool true) ∧ Below w.heap.size w w' := by
  have d0 : ¬ (5000 : Int) < (s.size : Int) := by omega
  have H := Lib.hid ar.stands_any
  have HP := Lib.hid (fun W => parse_any s W)
  rw [hX] at HP
  have dF : (f != 0) = true := by simpa using hf
  have HL := Lib.hid (fun W => place_any s q (by omega) W)
  have hg := plc_ge s q s.size 0 1 1 (by omega) (by omega)
  obtain ⟨l, hl⟩ : ∃ l, l = (plc s q s.size 0 1 1).1 := ⟨_, rfl⟩
  obtain ⟨c, hc⟩ : ∃ c, c = (plc s q s.size 0 1 1).2 := ⟨_, rfl⟩
  rw [← hl, ← hc] at HL hg
  have l1 : (1 : Int) ≤ l := hg.1
  have c1 : (1 : Int) ≤ c := hg.2
  have q0 : (0 : Int) ≤ (q : Int) := by omega
  have q1 : (q : Int) ≤ (s.size : Int) := by omega
  clear hs hX hf hg hl hc hq
  go_enter Tryd.func6, Tryd.ntmps6
  go_wp2_with fail
  refine (H.out _).mono ?_
  rintro e w1 ⟨rfl, hB1⟩
  have B1 := Lib.hid hB1
  clear hB1 H
  go_wp2_with fail
  refine (HP.out _).mono ?_
  rintro e w2 ⟨rfl, hB2⟩
  have B2 := Lib.hid (bl_tr B1.out hB2)
  have B3 := Lib.hid (bl_al B2.out (.cells #[.int .i64 0, .int .i64 0, .int .i64 0, .slice none 0 0, .slice none 0 0, .slice none 0 0] 25))
  have Z := Lib.hid (heap_alloc_new w2 (.cells #[.int .i64 0, .int .i64 0, .int .i64 0, .slice none 0 0, .slice none 0 0, .slice none 0 0] 25))
  clear hB2 B1 B2 HP
  go_upto_region 4 with fail
  generalize w2.alloc (.cells #[.int .i64 0, .int .i64 0, .int .i64 0, .slice none 0 0, .slice none 0 0, .slice none 0 0] 25) = Y at Z B3 ⊢
  go_wp2_with fail
  refine (HL.out _).mono ?_
  rintro e w3 ⟨rfl, hB⟩
  have Z3 := Lib.hid ((hB.block _ (lt_blk Z.out)).trans Z.out)
  have B4 := Lib.hid (B3.out.trans (hB.mono B3.out.size))
  clear hB Z B3 HL
  obtain ⟨y0, y1, y2, y3, y4, y5⟩ := ip.box6 Z3.out
  go_wp2
  go_ret
  exact ⟨rfl, B4.out⟩
set_option maxRecDepth 100000 in
set_option maxHeartbeats 2000000 in
theorem texts_ok (s : ByteArray) (hs : ¬ 5000 < s.size) (K C : Int) (n : Nat) (wl vl : List Int) (cl : List (List Int)) (hX : PXX s = .ok K n C wl vl cl) (w : World) (ht : Tab w) : Calls Tryd.prog 6 #[.string s] w fun e w' => e = .returned (.bool true) ∧ Below w.heap.size w w' := by
  have d0 : ¬ (5000 : Int) < (s.size : Int) := by omega
  have H := Lib.hid ar.stands_any
  have HP := Lib.hid (fun W => parse_any s W)
  rw [hX] at HP
  have hF := pxx_fm hX
  have HF := Lib.hid hF
  have HZ := Lib.hid hF.chk
  have HP2 := Lib.hid (fun W => parse_any ⟨(wtx K n C wl vl cl).toArray⟩ W)
  rw [hF.xback] at HP2
  obtain ⟨m, hm, hS⟩ := hF.scans
  have HS := Lib.hid hS
  have m3 : (3 : Int) ≤ (m : Int) := by omega
  have HT := Lib.hid ht
  obtain ⟨m1, m2, m4⟩ := pxx_len hX
  clear hs hX hF hS ht hm
  go_enter Tryd.func6, Tryd.ntmps6
  go_wp2_with fail
  refine (H.out _).mono ?_
  rintro e w1 ⟨rfl, hB1⟩
  have B1 := Lib.hid hB1
  have T1 := Lib.hid (tab_st HT.out hB1)
  clear hB1 H HT
  go_wp2_with fail
  refine (HP.out _).mono ?_
  rintro e w2 ⟨v, rfl, hV, hB2⟩
  obtain ⟨wa, va, ca, wc, vc, cc, rfl, i1, i2, i3⟩ := hV.lists (by omega)
  have Z := Lib.hid (Bx.new (K := K) (N := n) (C := C) (wc := wc) (vc := vc) (cc := cc) i1 i2 i3)
  have bz : Below w2.heap.size w2 (w2.alloc (.cells #[.int .i64 K, .int .i64 n, .int .i64 C, .slice wa wl.length wc, .slice va vl.length vc, .slice ca cl.length cc] 25)) := bl_al (Below.refl _ _) _
  have BY := Lib.hid (bl_tr hB2 bz)
  clear hB2 hV i1 i2 i3 bz HP
  go_upto_region 7 with fail
  generalize w2.alloc (.cells #[.int .i64 K, .int .i64 n, .int .i64 C, .slice wa wl.length wc, .slice va vl.length vc, .slice ca cl.length cc] 25) = Y at Z BY ⊢
  have T2 := Lib.hid (tab_st T1.out BY.out)
  have B2 := Lib.hid (B1.out.trans (BY.out.mono B1.out.size))
  clear T1 B1 BY
  have HW := Lib.hid (write_fm HF.out wa va ca wc vc cc Y T2.out Z.out.i1 Z.out.i2 Z.out.i3)
  obtain ⟨d0', d1, d2, d3, d4, d5⟩ := ip.box6 Z.out.box
  go_wp2_with fail
  refine HW.out.mono ?_; rintro e w3 ⟨rfl, hb3⟩
  have Z3 := Lib.hid (Z.out.keep hb3)
  have B3 := Lib.hid (B2.out.trans (hb3.mono B2.out.size))
  clear hb3 Z B2 T2 HW d0' d1 d2 d3 d4 d5
  go_wp2_with fail
  refine (HP2.out _).mono ?_
  rintro e w4 ⟨v, rfl, hV, hB4⟩
  obtain ⟨wb, vb, cb, wd, vd, cd, rfl, i1, i2, i3⟩ := hV.lists (by omega)
  have U := Lib.hid (Bx.new (K := K) (N := n) (C := C) (wc := wd) (vc := vd) (cc := cd) i1 i2 i3)
  have bz : Below w4.heap.size w4 (w4.alloc (.cells #[.int .i64 K, .int .i64 n, .int .i64 C, .slice wb wl.length wd, .slice vb vl.length vd, .slice cb cl.length cd] 25)) := bl_al (Below.refl _ _) _
  have B4 := Lib.hid (bl_tr hB4 bz)
  clear hB4 hV i1 i2 i3 bz HP2
  go_upto_region 9 with fail
  generalize w4.alloc (.cells #[.int .i64 K, .int .i64 n, .int .i64 C, .slice wb wl.length wd, .slice vb vl.length vd, .slice cb cl.length cd] 25) = Y4 at U B4 ⊢
  have Z4 := Lib.hid (Z3.out.keep B4.out)
  have B5 := Lib.hid (B3.out.trans (B4.out.mono B3.out.size))
  clear Z3 B3 B4
  go_wp2_with fail
  refine (HS.out _).mono ?_
  rintro e w5 ⟨ta, tc, rfl, hb5⟩
  have Z5 := Lib.hid (Z4.out.keep hb5)
  have U5 := Lib.hid (U.out.keep hb5)
  have B6 := Lib.hid (B5.out.trans (hb5.mono B5.out.size))
  clear hb5 Z4 U B5 HS
  obtain ⟨d0', d1, d2, d3, d4, d5⟩ := ip.box6 Z5.out.box
  have HK := Lib.hid (ip.check_any K n C wl vl cl wa va ca wc vc cc w5 Z5.out.i1 Z5.out.i2 Z5.out.i3 (by omega) (by omega) (by omega))
  rw [HZ.out] at HK
  go_wp2_with fail
  refine HK.out.mono ?_; rintro e w6 ⟨rfl, hb6⟩
  have Z6 := Lib.hid (Z5.out.keep hb6)
  have U6 := Lib.hid (U5.out.keep hb6)
  have B7 := Lib.hid (B6.out.trans (hb6.mono B6.out.size))
  clear hb6 Z5 U5 B6 HK d0' d1 d2 d3 d4 d5
  obtain ⟨c0, c1, c2, c3, c4, c5⟩ := ip.box6 U6.out.box
  obtain ⟨d0', d1, d2, d3, d4, d5⟩ := ip.box6 Z6.out.box
  have HQ := Lib.hid (ip.isame_any true K n C K n C wl vl wl vl cl cl (by simp) wa va ca wb vb cb wc vc cc wd vd cd w6 Z6.out.i1 Z6.out.i2 Z6.out.i3 U6.out.i1 U6.out.i2 U6.out.i3 (by omega) (by omega) (by omega) (by omega) (by omega) (by omega))
  go_wp2_with fail
  refine HQ.out.mono ?_; rintro e w7 ⟨rfl, hb7⟩
  have B8 := Lib.hid (B7.out.trans (hb7.mono B7.out.size))
  clear hb7 Z6 U6 B7 HQ c0 c1 c2 c3 c4 c5 d0' d1 d2 d3 d4 d5
  go_wp2
  go_ret
  exact ⟨rfl, B8.out⟩
theorem texts_walk (s : ByteArray) (w : World) (ht : Tab w) : Calls Tryd.prog 6 #[.string s] w fun e w' => e = .returned (.bool true) ∧ Below w.heap.size w w' := by
  by_cases hs : 5000 < s.size
  · exact texts_long s hs w
  · cases hX : PXX s with
    | bad q f => exact texts_bad s hs q f (pxx_bad hX) (pxx_at hX) hX w
    | ok K n C wl vl cl => exact texts_ok s hs K C n wl vl cl hX w ht
end Go.Proofs.YtjlaankgfpjeeaaDoor

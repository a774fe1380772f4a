/-
  knap: the reference's Best.
-/
import Derived.Test.YteoionlnnjcggaaKidsL
import Derived.Test.YteoionlnnjcggaaKt
import Derived.Deep.RegionHeld3
namespace Go.Proofs.Yteoionlnnjcggaa.kn
open Go.RowKit
set_option linter.unusedVariables false
/-- what Best answers of a beginning -/
def bv (C : Int) (T Wl Vl pl : List Int) : Int := bst Wl Vl (T.length - pl.length) pl.length (rm C Wl pl pl.length) (lost Vl pl pl.length)
set_option maxRecDepth 100000 in
set_option maxHeartbeats 8000000 in
theorem best_whole (N C : Int) (wl vl : List Int) (cl : List (List Int)) (T : List Int) (wa va ca : Option Addr) (wc vc cc : Nat) (hz : chk 1 N C wl vl cl = 0) (hN : (wl.length : Int) = N) (lv : vl.length = wl.length) (n2 : wl.length ≤ 64)
    (io : ∀ j, j < wl.length → (0 ≤ nt wl j ∧ nt wl j ≤ 2147483647) ∧ (0 ≤ nt vl j ∧ nt vl j ≤ 2147483647)) (ho : Ordd wl vl T) (ok : KnOk C T (pick wl T) (pick vl T)) (pl : List Int) (v : Value) (w : World) (hP : Prob w wl vl cl wa va ca) (lo : LeftOk C (pick wl T) pl) (hw : pl.length = T.length) (hp : Ls v pl w) :
    Calls Try.prog 24 #[.agg #[.int .i64 1, .int .i64 N, .int .i64 C, .slice wa wl.length wc, .slice va vl.length vc, .slice ca cl.length cc], v] w fun e w' => e = .returned (.int .i64 (bv C T (pick wl T) (pick vl T) pl)) ∧ Below w.heap.size w w' := by
  have BA := bl_al (Below.refl _ w) (.cells #[.int .i64 1, .int .i64 N, .int .i64 C, .slice wa wl.length wc, .slice va vl.length vc, .slice ca cl.length cc] 25)
  have TL : T.length = wl.length := ho.is_.1
  have RK := Lib.hid (fun (Y : World) (hb : Below w.heap.size w Y) => rkids_any 1 N C wl vl cl T pl wa va ca wc vc cc v Y (hP.1.keep hb) (hP.2.1.keep hb) hN lv n2 io ho ok (hp.up hb) (by omega))
  have RA := Lib.hid (fun (Y : World) (hb : Below w.heap.size w Y) => rans_any 1 N C wl vl cl T pl wa va ca wc vc cc v Y (hP.1.keep hb) (hP.2.1.keep hb) hN lv n2 io ho ok (hp.up hb) (by omega))
  have pm := prm_of ho (fun j hj => (io j hj).1.1)
  have RC := Lib.hid (fun (Y : World) (u : Value) (hb : Below w.heap.size w Y) (hx : Ls u (ansl T pl T.length) Y) => rcost_any N C wl vl cl (ansl T pl T.length) wa va ca wc vc cc u Y ⟨hP.1.keep hb, hP.2.1.keep hb, hP.2.2.1.keep hb, hP.2.2.2⟩ hz hN lv n2 io hx (by rw [ansl_len, TL]) (fun j hj => by
    rw [ansl_len] at hj
    obtain ⟨i, hi, _, e⟩ := ansl_all (pl := pl) pm j hj
    rw [e]
    exact lo.bit i (by omega)) (by
    rw [← TL, ws_ansl C pm]
    have := lo.room
    rw [hw] at this
    omega))
  have EV := Lib.hid (show cs vl (ansl T pl T.length) wl.length = bv C T (pick wl T) (pick vl T) pl from by rw [← TL, cs_ansl pm hw]; exact (bdv_whole hw).2.symm)
  have q0 := heap_alloc_new w (.cells #[.int .i64 1, .int .i64 N, .int .i64 C, .slice wa wl.length wc, .slice va vl.length vc, .slice ca cl.length cc] 25)
  obtain ⟨c0, c1, c2, c3, c4, c5⟩ := box6 q0
  have Q0 := Lib.hid q0
  have HBA := Lib.hid BA
  have HL := Lib.hid lo
  have HWH := Lib.hid hw
  have b1 : ((pl.length : Int) == N) = true := by rw [← hN, ← TL, ← hw]; simp
  obtain ⟨pa, pc, rfl⟩ := hp.form
  clear BA q0 hp hP hz lv n2 io ho ok TL lo pm hw
  go_enter Try.func24, Try.ntmps24
  go_wp2_with fail
  refine (RK.out _ HBA.out).mono ?_; rintro e w2 ⟨l, er, kv, u, rfl, ol, hb⟩
  obtain ⟨rfl, rfl⟩ := kv.whole HL.out HWH.out
  have B2 := Lib.hid (bl_tr HBA.out hb)
  have E2 := Lib.hid ((hb.block _ (lt_hp Q0.out)).trans Q0.out)
  clear c0 c1 c2 c3 c4 c5 kv ol hb
  obtain ⟨c0, c1, c2, c3, c4, c5⟩ := box6 E2.out
  go_wp2_with fail
  refine (RA.out _ B2.out).mono ?_; rintro e w3 hq
  rcases hq with ⟨-, u2, rfl, hu, hb⟩ | ⟨hq, -⟩
  case inr => exact absurd ⟨HL.out, HWH.out⟩ hq
  have B3 := Lib.hid (bl_tr B2.out hb)
  have E3 := Lib.hid ((hb.block _ (lt_hp E2.out)).trans E2.out)
  have HU := Lib.hid hu
  clear c0 c1 c2 c3 c4 c5 hu hb
  obtain ⟨c0, c1, c2, c3, c4, c5⟩ := box6 E3.out
  go_wp2_with fail
  refine (RC.out _ _ B3.out HU.out).mono ?_; rintro e w4 ⟨rfl, hb⟩
  have B4 := Lib.hid (bl_tr B3.out hb)
  clear hb
  rw [EV.out]
  go_wp2
  go_ret
  exact ⟨rfl, B4.out⟩
theorem app_run_src {a : Option Addr} {c : Nat} {L : List Int} {w : World} (h : Ls (.slice a L.length c) L w) : SrcA w a c L ∨ L = [] := by
  rcases h with ⟨_, _, _, h0⟩ | ⟨g, o, c', h1, _, h3, h4⟩
  · exact .inr h0
  · injection h1 with q1 q2 q3
    subst q1
    exact .inl (.inr ⟨_, rfl, cells_src h4⟩)
theorem own_al {B : Nat} {v : Value} {L : List Int} {w : World} (h : Ol B v L w) (o : Obj) : Ol B v L ((w.alloc o).drew) := h.keep ((Tw.refl [] w).al o).dr (by simp)
theorem srcA_up {X Y : World} {a : Option Addr} {c : Nat} {l : List Int} (h : SrcA X a c l) (hb : Below X.heap.size X Y) : SrcA Y a c l := by
  rcases h with h | ⟨ad, e, hc⟩
  · exact .inl h
  · exact .inr ⟨ad, e, fun j u hj => (hb.cell (p := ad.add j) (block_lt_of_cell (hc j u hj))).trans (hc j u hj)⟩
theorem own0b (w : World) (o : Obj) : ((w.alloc o).alloc (.cells #[] 3)).ownsRow (w.heap.size + 1) 3 1 (.slice (some ⟨w.heap.size + 1, 0, none⟩) 0 0) 0 [] := by
  have h := own0 (w.alloc o)
  rw [World.size_alloc] at h
  exact h
theorem cx2 {w w5 : World} {x : Int} (h : ((w.alloc (.cells #[] 3)).alloc (.cells #[.int .i64 x] 3)).grownBy w5 (some w.heap.size)) : w5.cell? ⟨w.heap.size + 1, 0, none⟩ = some (.int .i64 x) := by
  have e := h.block (w.heap.size + 1) (by simp) (by simp)
  have a := heap_alloc_new (w.alloc (.cells #[] 3)) (.cells #[.int .i64 x] 3)
  rw [World.size_alloc] at a
  exact (cell_of_row _ _ 0 _ 3 _ (e.trans a)).trans rfl
theorem cx3 {w w5 : World} {x : Int} (h : ((w.alloc (.cells #[.int .i64 x] 3)).alloc (.cells #[] 3)).grownBy w5 (some (w.heap.size + 1))) : w5.cell? ⟨w.heap.size, 0, none⟩ = some (.int .i64 x) := by
  have e := h.block w.heap.size (by simp; omega) (by simp)
  have a := (heap_alloc_old (w.alloc (.cells #[.int .i64 x] 3)) (.cells #[] 3) (by simp)).trans (heap_alloc_new w (.cells #[.int .i64 x] 3))
  exact (cell_of_row _ _ 0 _ 3 _ (e.trans a)).trans rfl
theorem own_al0 {B : Nat} {v : Value} {L : List Int} {w : World} (h : Ol B v L w) (o : Obj) : Ol B v L (w.alloc o) := h.keep ((Tw.refl [] w).al o) (by simp)
theorem cell_al0 (w : World) (x : Int) : (w.alloc (.cells #[.int .i64 x] 3)).cell? ⟨w.heap.size, 0, none⟩ = some (.int .i64 x) := (cell_of_row _ _ 0 _ 3 _ (heap_alloc_new w (.cells #[.int .i64 x] 3))).trans rfl
theorem own_dr {B : Nat} {v : Value} {L : List Int} {w : World} (h : Ol B v L w) : Ol B v L w.drew := h.keep (Tw.refl [] w).dr (by simp)
theorem cell_al (w : World) (x : Int) : ((w.alloc (.cells #[.int .i64 x] 3)).drew).cell? ⟨w.heap.size, 0, none⟩ = some (.int .i64 x) := (cell_of_row _ _ 0 _ 3 _ (heap_alloc_new w (.cells #[.int .i64 x] 3))).trans rfl
theorem size_al {a w : World} (h : Below a.heap.size a w) (o : Obj) : a.heap.size ≤ ((w.alloc o).drew).heap.size := (bl_al h o).size
theorem bl_undr2 {X w : World} (h : Below X.drew.heap.size X.drew w) : Below X.heap.size X w := ⟨h.os, h.tape, h.output, h.size, h.block⟩
/-- the least so far -/
def bk (f : Nat → Int) : Nat → Int
  | 0 => -1
  | k + 1 => if bk f k < 0 ∨ f k < bk f k then f k else bk f k
set_option maxRecDepth 100000 in
set_option maxHeartbeats 8000000 in
theorem best_loop (N C : Int) (wl vl : List Int) (cl : List (List Int)) (T : List Int) (wa va ca : Option Addr) (wc vc cc : Nat) (hz : chk 1 N C wl vl cl = 0) (hN : (wl.length : Int) = N) (lv : vl.length = wl.length) (n2 : wl.length ≤ 64)
    (io : ∀ j, j < wl.length → (0 ≤ nt wl j ∧ nt wl j ≤ 2147483647) ∧ (0 ≤ nt vl j ∧ nt vl j ≤ 2147483647)) (ho : Ordd wl vl T) (ok : KnOk C T (pick wl T) (pick vl T)) (pl L : List Int) (v : Value) (w : World) (hP : Prob w wl vl cl wa va ca) (lw : pl.length < T.length) (hL : L.length ≤ 2) (hp : Ls v pl w) (hs : ∀ pa pc, v = .slice pa pl.length pc → SrcA w pa pc pl)
    (KD : ∀ Y, Below w.heap.size w Y → Calls Try.prog 19 #[.agg #[.int .i64 1, .int .i64 N, .int .i64 C, .slice wa wl.length wc, .slice va vl.length vc, .slice ca cl.length cc], v] Y fun e w' => ∃ u, e = .returned (.tuple #[u, .int .i64 0]) ∧ Ls u L w' ∧ Below Y.heap.size Y w')
    (IH : ∀ k u Y, k < L.length → Ls u (pl ++ [nt L k]) Y → Below w.heap.size w Y → Calls Try.prog 24 #[.agg #[.int .i64 1, .int .i64 N, .int .i64 C, .slice wa wl.length wc, .slice va vl.length vc, .slice ca cl.length cc], u] Y fun e w' => e = .returned (.int .i64 (bv C T (pick wl T) (pick vl T) (pl ++ [nt L k]))) ∧ Below Y.heap.size Y w') :
    Calls Try.prog 24 #[.agg #[.int .i64 1, .int .i64 N, .int .i64 C, .slice wa wl.length wc, .slice va vl.length vc, .slice ca cl.length cc], v] w fun e w' => e = .returned (.int .i64 (bk (fun k => bv C T (pick wl T) (pick vl T) (pl ++ [nt L k])) L.length)) ∧ Below w.heap.size w w' := by
  have BA := bl_al (Below.refl _ w) (.cells #[.int .i64 1, .int .i64 N, .int .i64 C, .slice wa wl.length wc, .slice va vl.length vc, .slice ca cl.length cc] 25)
  have TL : T.length = wl.length := ho.is_.1
  have RK := Lib.hid KD
  have RI := Lib.hid IH
  have q0 := heap_alloc_new w (.cells #[.int .i64 1, .int .i64 N, .int .i64 C, .slice wa wl.length wc, .slice va vl.length vc, .slice ca cl.length cc] 25)
  obtain ⟨c0, c1, c2, c3, c4, c5⟩ := box6 q0
  have Q0 := Lib.hid q0
  have HBA := Lib.hid BA
  have n1 : ((pl.length : Int) == N) = false := beq_eq_false_iff_ne.mpr (by omega)
  have p1 : pl.length ≤ 64 := by omega
  obtain ⟨pa, pc, rfl⟩ := hp.form
  have HSR := Lib.hid (hs pa pc rfl)
  clear BA q0 hp hP hz lv n2 io ho ok TL KD IH lw hs
  go_enter Try.func24, Try.ntmps24
  go_wp2_with fail
  refine (RK.out _ HBA.out).mono ?_; rintro e w2 ⟨u, rfl, lu, hb⟩
  obtain ⟨la, lc, rfl⟩ := lu.form
  have B2 := Lib.hid (bl_tr HBA.out hb)
  have E2 := Lib.hid ((hb.block _ (lt_hp Q0.out)).trans Q0.out)
  have HLU := Lib.hid (fun (Y : World) (h : Below w2.heap.size w2 Y) => lu.up h)
  have BX := Lib.hid (fun (Y : World) (h : Below w2.heap.size w2 Y) => box6 ((h.block _ (lt_hp E2.out)).trans E2.out))
  clear c0 c1 c2 c3 c4 c5 lu hb Q0 HBA RK
  obtain ⟨c0, c1, c2, c3, c4, c5⟩ := box6 E2.out
  go_wp2
  clear c0 c1 c2 c3 c4 c5
  go_loopw [12, 11] (fun i b wr => ∃ k : Nat, i = .int .i64 (k : Int) ∧ b = .int .i64 (bk (fun k => bv C T (pick wl T) (pick vl T) (pl ++ [nt L k])) k) ∧ k ≤ L.length ∧ Hid (Below w2.heap.size w2 wr)) (fun i _ _ => L.length - (intOf i).toNat)
  case atStart => exact ⟨0, rfl, rfl, Nat.zero_le _, Lib.hid (Below.refl _ _)⟩
  case round =>
    obtain ⟨k, rfl, rfl, hk, HD⟩ := hrel
    by_cases hlt : k < L.length
    · obtain ⟨gl, ol, rfl, m1⟩ := (HLU.out _ HD.out).at_ k hlt
      have i1 : (k : Int) < (L.length : Int) := by omega
      have EB : Hid (bk (fun k => bv C T (pick wl T) (pick vl T) (pl ++ [nt L k])) (k + 1) = if bk (fun k => bv C T (pick wl T) (pick vl T) (pl ++ [nt L k])) k < 0 ∨ bv C T (pick wl T) (pick vl T) (pl ++ [nt L k]) < bk (fun k => bv C T (pick wl T) (pick vl T) (pl ++ [nt L k])) k then bv C T (pick wl T) (pick vl T) (pl ++ [nt L k]) else bk (fun k => bv C T (pick wl T) (pick vl T) (pl ++ [nt L k])) k) := Lib.hid rfl
      have RI2 := Lib.hid (fun u Y => RI.out k u Y hlt)
      have FX := Lib.hid (fun (Y : World) (h : Below wr.heap.size wr Y) => show (Y.cell? ⟨w.heap.size, 0, none⟩ = some (.int .i64 1) ∧ Y.cell? ⟨w.heap.size, 1, none⟩ = some (.int .i64 N) ∧ Y.cell? ⟨w.heap.size, 2, none⟩ = some (.int .i64 C) ∧ Y.cell? ⟨w.heap.size, 3, none⟩ = some (.slice wa wl.length wc) ∧ Y.cell? ⟨w.heap.size, 4, none⟩ = some (.slice va vl.length vc) ∧ Y.cell? ⟨w.heap.size, 5, none⟩ = some (.slice ca cl.length cc)) ∧ Y.cell? ⟨gl, ol + k, none⟩ = some (.int .i64 (nt L k)) from ⟨BX.out Y (bl_tr HD.out h), (h.cell (p := ⟨gl, ol + k, none⟩) (block_lt_of_cell m1)).trans m1⟩)
      have SA := Lib.hid (fun (Y : World) (h : Below wr.heap.size wr Y) => srcA_up HSR.out (bl_tr B2.out (bl_tr HD.out h)))
      have s0 := FX.out wr (Below.refl _ _)
      generalize nt L k = x at *
      generalize bv C T (pick wl T) (pick vl T) (pl ++ [x]) = bx at *
      generalize bk (fun k => bv C T (pick wl T) (pick vl T) (pl ++ [nt L k])) k = b0 at *
      go_upto_region 12 with fail
      go_region_held3 (fun Y => (Y.cell? ⟨w.heap.size, 0, none⟩ = some (.int .i64 1) ∧ Y.cell? ⟨w.heap.size, 1, none⟩ = some (.int .i64 N) ∧ Y.cell? ⟨w.heap.size, 2, none⟩ = some (.int .i64 C) ∧ Y.cell? ⟨w.heap.size, 3, none⟩ = some (.slice wa wl.length wc) ∧ Y.cell? ⟨w.heap.size, 4, none⟩ = some (.slice va vl.length vc) ∧ Y.cell? ⟨w.heap.size, 5, none⟩ = some (.slice ca cl.length cc)) ∧ Y.cell? ⟨gl, ol + k, none⟩ = some (.int .i64 x)) (first | exact s0 | exact FX.out _ (bl_al (Below.refl _ wr) _) | exact FX.out _ (bl_al (bl_al (Below.refl _ wr) _) _) | exact FX.out _ (bl_al (Below.refl _ wr) _).drew | exact FX.out _ (bl_al (bl_al (Below.refl _ wr) _) _).drew | exact d3 | exact FX.out _ D5.out.drew | exact FX.out _ (bl_al D5.out _) | exact FX.out _ (bl_al D5.out _).drew | exact FX.out _ D6.out.drew | exact FX.out _ D7.out.drew | exact d4 | exact d5 | fail)
        (first
        | (refine step_app (by rfl) _ _ (by rfl) (by rfl) (wr.heap.size) (wr.heap.size) pl pa pc (by rfl) (by rfl) (by omega) (own0 wr).drew (by first | (simp; done) | (simp; omega)) (SA.out _ (bl_al (Below.refl _ wr) (.cells #[] 3)).drew) ?_; intro g cap w5 ho5 hg5 hlt5; have hg6 : Below wr.heap.size wr w5 := (bl_al (Below.refl _ wr) (.cells #[] 3)).grown (undrew_g hg5) (by first | (simp; done) | (simp; omega)) (fun j hj => by simp at hj; omega); have NL := Lib.hid (show Ol (wr.heap.size) (.slice (some ⟨g, 0, none⟩) pl.length cap) pl w5 from ho5); have D5 := Lib.hid hg6; have d3 := FX.out w5 hg6; clear ho5 hg5 hlt5 hg6)
        | (refine step_app (by rfl) _ _ (by rfl) (by rfl) (wr.heap.size) (wr.heap.size) pl pa pc (by rfl) (by rfl) (by omega) ((own0 wr).alloc (.cells #[.int .i64 x] 3)).drew (by first | (simp; done) | (simp; omega)) (SA.out _ (bl_al (bl_al (Below.refl _ wr) (.cells #[] 3)) (.cells #[.int .i64 x] 3)).drew) ?_; intro g cap w5 ho5 hg5 hlt5; have hg6 : Below wr.heap.size wr w5 := (bl_al (bl_al (Below.refl _ wr) (.cells #[] 3)) (.cells #[.int .i64 x] 3)).grown (undrew_g hg5) (by first | (simp; done) | (simp; omega)) (fun j hj => by simp at hj; omega); have NL := Lib.hid (show Ol (wr.heap.size) (.slice (some ⟨g, 0, none⟩) pl.length cap) pl w5 from ho5); have D5 := Lib.hid hg6; have d3 := FX.out w5 hg6; have CX := Lib.hid (cx2 (undrew_g hg5)); clear ho5 hg5 hlt5 hg6)
        | (refine step_app (by rfl) _ _ (by rfl) (by rfl) (wr.heap.size + 1) (wr.heap.size + 1) pl pa pc (by rfl) (by rfl) (by omega) (own0b wr _).drew (by first | (simp; done) | (simp; omega)) (SA.out _ (bl_al (bl_al (Below.refl _ wr) (.cells #[.int .i64 x] 3)) (.cells #[] 3)).drew) ?_; intro g cap w5 ho5 hg5 hlt5; have hg6 : Below wr.heap.size wr w5 := (bl_al (bl_al (Below.refl _ wr) (.cells #[.int .i64 x] 3)) (.cells #[] 3)).grown (undrew_g hg5) (by first | (simp; done) | (simp; omega)) (fun j hj => by simp at hj; omega); have NL := Lib.hid (show Ol (wr.heap.size + 1) (.slice (some ⟨g, 0, none⟩) pl.length cap) pl w5 from ho5); have D5 := Lib.hid hg6; have d3 := FX.out w5 hg6; have CX := Lib.hid (cx3 (undrew_g hg5)); have SZ := Lib.hid (show wr.heap.size + 1 ≤ w5.heap.size from by have := hg5.size; simp at this; omega); clear ho5 hg5 hlt5 hg6)
        | (refine step_app2 (by rfl) _ _ (by rfl) (by rfl) (wr.heap.size) _ pl x (w5.heap.size) (by rfl) (by rfl) (by omega) (own_al0 NL.out (.cells #[.int .i64 x] 3)) ((bl_al D5.out (.cells #[.int .i64 x] 3)).size) (cell_al0 w5 x) ?_; intro v6 w6 ho6 tw6 hv6; have hg6 : Below wr.heap.size wr w6 := Tw.below (bl_al D5.out (.cells #[.int .i64 x] 3)) tw6 (fun i hi => by have := (NL.out.blk i hi).1; omega) (bl_al D5.out (.cells #[.int .i64 x] 3)).size; have NL2 := Lib.hid (show Ol (wr.heap.size) v6 (pl ++ [x]) w6 from ho6); have D6 := Lib.hid hg6; have d4 := FX.out w6 hg6; clear ho6 tw6 hv6 hg6)
        | (refine step_app2 (by rfl) _ _ (by rfl) (by rfl) (wr.heap.size) _ pl x (w5.heap.size) (by rfl) (by rfl) (by omega) (own_al NL.out (.cells #[.int .i64 x] 3)) ((bl_al D5.out (.cells #[.int .i64 x] 3)).size) (cell_al w5 x) ?_; intro v6 w6 ho6 tw6 hv6; have hg6 : Below wr.heap.size wr w6 := Tw.below ((bl_al D5.out (.cells #[.int .i64 x] 3)).drew) tw6 (fun i hi => by have := (NL.out.blk i hi).1; omega) ((bl_al D5.out (.cells #[.int .i64 x] 3)).drew).size; have NL2 := Lib.hid (show Ol (wr.heap.size) v6 (pl ++ [x]) w6 from ho6); have D6 := Lib.hid hg6; have d4 := FX.out w6 hg6; clear ho6 tw6 hv6 hg6)
        | (refine step_app2 (by rfl) _ _ (by rfl) (by rfl) (wr.heap.size) _ pl x (wr.heap.size + 1) (by rfl) (by rfl) (by omega) (NL.out) ((D5.out).size) CX.out ?_; intro v6 w6 ho6 tw6 hv6; have hg6 : Below wr.heap.size wr w6 := Tw.below (D5.out) tw6 (fun i hi => by have := (NL.out.blk i hi).1; omega) (D5.out).size; have NL2 := Lib.hid (show Ol (wr.heap.size) v6 (pl ++ [x]) w6 from ho6); have D6 := Lib.hid hg6; have d4 := FX.out w6 hg6; clear ho6 tw6 hv6 hg6)
        | (refine step_app2 (by rfl) _ _ (by rfl) (by rfl) (wr.heap.size + 1) _ pl x (wr.heap.size) (by rfl) (by rfl) (by omega) (NL.out) (SZ.out) CX.out ?_; intro v6 w6 ho6 tw6 hv6; have hg6 : Below wr.heap.size wr w6 := Tw.below (D5.out) tw6 (fun i hi => by have := (NL.out.blk i hi).1; omega) (D5.out).size; have NL2 := Lib.hid (show Ol (wr.heap.size + 1) v6 (pl ++ [x]) w6 from ho6); have D6 := Lib.hid hg6; have d4 := FX.out w6 hg6; clear ho6 tw6 hv6 hg6)
        | (refine step_app2 (by rfl) _ _ (by rfl) (by rfl) (wr.heap.size) _ pl x (wr.heap.size + 1) (by rfl) (by rfl) (by omega) (own_dr NL.out) ((D5.out.drew).size) CX.out ?_; intro v6 w6 ho6 tw6 hv6; have hg6 : Below wr.heap.size wr w6 := Tw.below (D5.out.drew) tw6 (fun i hi => by have := (NL.out.blk i hi).1; omega) (D5.out.drew).size; have NL2 := Lib.hid (show Ol (wr.heap.size) v6 (pl ++ [x]) w6 from ho6); have D6 := Lib.hid hg6; have d4 := FX.out w6 hg6; clear ho6 tw6 hv6 hg6)
        | (refine step_app2 (by rfl) _ _ (by rfl) (by rfl) (wr.heap.size + 1) _ pl x (wr.heap.size) (by rfl) (by rfl) (by omega) (own_dr NL.out) (SZ.out) CX.out ?_; intro v6 w6 ho6 tw6 hv6; have hg6 : Below wr.heap.size wr w6 := Tw.below (D5.out.drew) tw6 (fun i hi => by have := (NL.out.blk i hi).1; omega) (D5.out.drew).size; have NL2 := Lib.hid (show Ol (wr.heap.size + 1) v6 (pl ++ [x]) w6 from ho6); have D6 := Lib.hid hg6; have d4 := FX.out w6 hg6; clear ho6 tw6 hv6 hg6)
        | (go_at_call 24; (with_reducible refine (RI2.out _ _ NL2.out.ls (bl_tr B2.out (bl_tr HD.out D6.out))).mono ?_); rintro e w7 ⟨rfl, hb7⟩; have D7 := Lib.hid (bl_tr D6.out hb7); have d5 := FX.out w7 D7.out; clear hb7)
        | fail)
      all_goals
        replace D7 := Lib.hid (bl_tr HD.out D7.out)
        by_cases q1 : b0 < 0
        · go_wp2
          go_roundw
          case rel => exact ⟨k + 1, by go_num, by rw [EB.out, if_pos (Or.inl q1)], hlt, D7⟩
          case measure => simp [intOf]; omega
        · by_cases q2 : bx < b0
          · go_wp2
            go_roundw
            case rel => exact ⟨k + 1, by go_num, by rw [EB.out, if_pos (Or.inr q2)], hlt, D7⟩
            case measure => simp [intOf]; omega
          · go_wp2
            go_roundw
            case rel => exact ⟨k + 1, by go_num, by rw [EB.out, if_neg (fun h => h.elim q1 q2)], hlt, D7⟩
            case measure => simp [intOf]; omega
    · obtain rfl : k = L.length := by omega
      have i2 : ¬ (L.length : Int) < (L.length : Int) := by omega
      go_wp2
      go_ret
      exact ⟨rfl, bl_tr B2.out HD.out⟩
end Go.Proofs.Yteoionlnnjcggaa.kn

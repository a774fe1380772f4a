/-
  The walk of kurganlaw05.InstWrites.
-/
import Derived.Test.YtknpjeeclagmjaaDoorWrBoth
import Derived.Test.YtknpjeeclagmjaaDoorSame2
import Derived.Deep.Cut
namespace Go.Proofs.YtknpjeeclagmjaaDoor
open Go.RowKit
set_option linter.unusedVariables false
theorem rsrc_rows {W : World} {a : Option Addr} {n c : Nat} {cl : List (List Int)} (h : RSrc W a n c cl) : ∀ j, j < cl.length → (cl[j]?.getD []).length ≤ 70 := fun j hj => by
  obtain ⟨h1, h2, h3, h4⟩ := h
  rcases h4 with ⟨h4, _⟩ | ⟨b, o, e, hlt, hc⟩
  · omega
  · obtain ⟨aj, nj, cj, k1, k2⟩ := hc j hj
    have := k2.1; omega
/-- a problem in memory -/
structure Prb (W : World) (wl vl : List Int) (cl : List (List Int)) (wa va ca : Option Addr) : Prop where
  i1 : Ints W wa wl
  i2 : Ints W va vl
  i3 : Rws W ca cl
theorem Prb.keep {W W1 : World} {wl vl : List Int} {cl : List (List Int)} {wa va ca : Option Addr} (h : Prb W wl vl cl wa va ca) (hb : Below W.heap.size W W1) : Prb W1 wl vl cl wa va ca := ⟨h.i1.keep hb, h.i2.keep hb, h.i3.keep hb⟩
/-- the problem's copy stored into its box: what is there then -/
theorem store_box {w w1 : World} {b g1 g2 k1 k2 cc : Nat} {ca : Option Addr} {K N C : Int} {wl vl : List Int} {cl : List (List Int)} {B : Nat} {v0 v1 v2 v3 v4 v5 : Value}
    (hw : w.heap.size ≤ b) (q : w1.heap[b]? = some (.cells #[v0, v1, v2, v3, v4, v5] 25 (0, 0))) (hb : Below w.heap.size w w1) (i1 : IntsO w1 g1 wl) (i2 : IntsO w1 g2 vl) (rw : RwsO B w1 ca cl)
    (X : World) (hX : X = (((((w1.setCell ⟨b, 0, none⟩ (.int .i64 K)).setCell ⟨b, 1, none⟩ (.int .i64 N)).setCell ⟨b, 2, none⟩ (.int .i64 C)).setCell ⟨b, 3, none⟩ (.slice (some ⟨g1, 0, none⟩) wl.length k1)).setCell ⟨b, 4, none⟩ (.slice (some ⟨g2, 0, none⟩) vl.length k2)).setCell ⟨b, 5, none⟩ (.slice ca cl.length cc)) :
    X.heap[b]? = some (.cells #[.int .i64 K, .int .i64 N, .int .i64 C, .slice (some ⟨g1, 0, none⟩) wl.length k1, .slice (some ⟨g2, 0, none⟩) vl.length k2, .slice ca cl.length cc] 25 (0, 0)) ∧ IntsO X g1 wl ∧ IntsO X g2 vl ∧ RwsO B X ca cl ∧ Below w.heap.size w X ∧ (∀ k, k ≠ b → X.heap[k]? = w1.heap[k]?) := by
  subst hX
  have XO : ∀ k, k ≠ b → _ = _ := fun k hk => six_other (w := w1) hk (.int .i64 K) (.int .i64 N) (.int .i64 C) (.slice (some ⟨g1, 0, none⟩) wl.length k1) (.slice (some ⟨g2, 0, none⟩) vl.length k2) (.slice ca cl.length cc)
  exact ⟨six q _ _ _ _ _ _, i1.same (XO _ (i1.ne q (by decide))), i2.same (XO _ (i2.ne q (by decide))), rw.other q XO, six_below hb hw _ _ _ _ _ _, XO⟩
set_option maxRecDepth 100000 in
set_option maxHeartbeats 2000000 in
theorem writes_walk (kd N C : Int) (wl vl : List Int) (cl : List (List Int)) (wa va ca : Option Addr) (wn vn cn wc vc cc : Nat) (w : World) (ht : Tab w) (h1 : Src w wa wn wc wl) (h2 : Src w va vn vc vl) (h3 : RSrc w ca cn cc cl) :
    Calls Tryd.prog 4 #[.agg #[.int .i64 kd, .int .i64 N, .int .i64 C, .slice wa wn wc, .slice va vn vc, .slice ca cn cc]] w fun e w' => e = .returned (.bool true) ∧ Below w.heap.size w w' := by
  have bA : Below w.heap.size w (w.alloc (.cells #[.int .i64 kd, .int .i64 N, .int .i64 C, .slice wa wn wc, .slice va vn vc, .slice ca cn cc] 25)) := bl_al (Below.refl _ _) _
  have HC := Lib.hid (refcopy_any kd N C wl vl cl wa va ca wn vn cn wc vc cc _ (h1.keep bA) (h2.keep bA) (h3.keep bA))
  have HT := Lib.hid (tab_keep _ _ ht bA)
  have HB := Lib.hid bA
  have hp := tab_pos ht
  have l1 : wl.length ≤ 70 := by have := h1.1; omega
  have l2 : vl.length ≤ 70 := by have := h2.1; omega
  have l3 : cl.length ≤ 30 := by have := h3.1; omega
  have HRR := Lib.hid (rsrc_rows h3)
  obtain ⟨tx, er, W12, W13⟩ := wr_both kd N C wl vl cl (by omega) (by omega) (by omega)
  have W12 := Lib.hid W12
  have W13 := Lib.hid W13
  clear h1 h2 h3 bA ht
  go_enter Tryd.func4, Tryd.ntmps4
  go_wp2_with fail
  refine HC.out.mono ?_; rintro e w1 ⟨g1, k1, g2, k2, ca', cc', rfl, hb, i1, i2, rw, p1, p2, p3, p4, -⟩
  have q0 : w1.heap[w.heap.size]? = some (.cells #[.int .i64 kd, .int .i64 N, .int .i64 C, .slice wa wn wc, .slice va vn vc, .slice ca cn cc] 25 (0, 0)) := (hb.block _ (by simp)).trans (heap_alloc_new w _)
  have Q := Lib.hid q0
  have T1 := Lib.hid (tab_keep _ _ HT.out hb)
  have B1 := Lib.hid (bl_tr HB.out hb)
  have SB := Lib.hid (store_box (k1 := k1) (k2 := k2) (cc := cc') (K := kd) (N := N) (C := C) (Nat.le_refl _) q0 (bl_tr HB.out hb) i1 i2 rw _ rfl)
  have P1 := Lib.hid p1
  have P2 := Lib.hid p2
  have P3 := Lib.hid p3
  have P4 := Lib.hid p4
  have TX := Lib.hid (tab_b T1.out (six_below (Below.refl w.heap.size w1) (Nat.le_refl _) (.int .i64 kd) (.int .i64 N) (.int .i64 C) (.slice (some ⟨g1, 0, none⟩) wl.length k1) (.slice (some ⟨g2, 0, none⟩) vl.length k2) (.slice ca' cl.length cc')) hp)
  clear hb i1 i2 rw q0 HC HT HB p1 p2 p3 p4 B1 T1
  obtain ⟨c0, c1, c2, c3, c4, c5⟩ := box6 Q.out
  have cf := fr6 Q.out
  have hs := lt_hp Q.out
  go_upto_region 2 with fail
  clear c0 c1 c2 c3 c4 c5 cf
  generalize ((((((w1.setCell ⟨w.heap.size, 0, none⟩ (.int .i64 kd)).setCell ⟨w.heap.size, 1, none⟩ (.int .i64 N)).setCell ⟨w.heap.size, 2, none⟩ (.int .i64 C)).setCell ⟨w.heap.size, 3, none⟩ (.slice (some ⟨g1, 0, none⟩) wl.length k1)).setCell ⟨w.heap.size, 4, none⟩ (.slice (some ⟨g2, 0, none⟩) vl.length k2)).setCell ⟨w.heap.size, 5, none⟩ (.slice ca' cl.length cc')) = X at SB TX ⊢
  obtain ⟨x0, j1, j2, jr, xb, -⟩ := SB.out
  have HC2 := Lib.hid (refcopy_any kd N C wl vl cl (some ⟨g1, 0, none⟩) (some ⟨g2, 0, none⟩) ca' wl.length vl.length cl.length k1 k2 cc' X (j1.src l1 P1.out) (j2.src l2 P2.out) (jr.rsrc l3 HRR.out P3.out P4.out))
  have PX := Lib.hid (show Prb X wl vl cl (some ⟨g1, 0, none⟩) (some ⟨g2, 0, none⟩) ca' from ⟨j1.ints, j2.ints, jr.rws⟩)
  have X0 := Lib.hid x0
  have XB := Lib.hid xb
  obtain ⟨c0, c1, c2, c3, c4, c5⟩ := box6 x0
  clear SB Q hs j1 j2 jr xb x0 P1 P2 P3 P4 HRR
  go_wp2_with fail
  refine HC2.out.mono ?_; rintro e w2 ⟨g3, k3, g4, k4, cb', cd', rfl, hb, i3, i4, rw2, -⟩
  clear c0 c1 c2 c3 c4 c5 HC2
  have bz : Below w2.heap.size w2 (w2.alloc (.cells #[.int .i64 kd, .int .i64 N, .int .i64 C, .slice (some ⟨g3, 0, none⟩) wl.length k3, .slice (some ⟨g4, 0, none⟩) vl.length k4, .slice cb' cl.length cd'] 25)) := bl_al (Below.refl _ _) _
  have Z0 := Lib.hid (heap_alloc_new w2 (.cells #[.int .i64 kd, .int .i64 N, .int .i64 C, .slice (some ⟨g3, 0, none⟩) wl.length k3, .slice (some ⟨g4, 0, none⟩) vl.length k4, .slice cb' cl.length cd'] 25))
  have BY := Lib.hid (bl_tr hb bz)
  have PY := Lib.hid (show Prb _ wl vl cl (some ⟨g3, 0, none⟩) (some ⟨g4, 0, none⟩) cb' from ⟨(i3.keep bz).ints, (i4.keep bz).ints, (rw2.keep bz).rws⟩)
  clear hb i3 i4 rw2 bz
  go_upto_region 3 with fail
  generalize w2.alloc (.cells #[.int .i64 kd, .int .i64 N, .int .i64 C, .slice (some ⟨g3, 0, none⟩) wl.length k3, .slice (some ⟨g4, 0, none⟩) vl.length k4, .slice cb' cl.length cd'] 25) = Y at Z0 BY PY ⊢
  have X1 := Lib.hid ((BY.out.block _ (lt_hp X0.out)).trans X0.out)
  have TY := Lib.hid (tab_keep _ _ TX.out BY.out)
  have PX1 := Lib.hid (PX.out.keep BY.out)
  have YB := Lib.hid (XB.out.trans (BY.out.mono XB.out.size))
  clear X0 TX PX BY XB
  obtain ⟨c0, c1, c2, c3, c4, c5⟩ := box6 X1.out
  go_wp2_with fail
  refine (W12.out _ _ _ _ _ _ _ TY.out PX1.out.i1 PX1.out.i2 PX1.out.i3).mono ?_; rintro e w3 ⟨rfl, hb3⟩
  have X3 := Lib.hid ((hb3.block _ (lt_hp X1.out)).trans X1.out)
  have Z3 := Lib.hid ((hb3.block _ (lt_hp Z0.out)).trans Z0.out)
  have T3 := Lib.hid (tab_keep _ _ TY.out hb3)
  have PX3 := Lib.hid (PX1.out.keep hb3)
  have PY3 := Lib.hid (PY.out.keep hb3)
  have B3 := Lib.hid (YB.out.trans (hb3.mono YB.out.size))
  clear hb3 X1 Z0 TY PX1 PY YB c0 c1 c2 c3 c4 c5
  obtain ⟨d0, d1, d2, d3, d4, d5⟩ := box6 Z3.out
  go_wp2_with fail
  refine (W13.out _ _ _ _ _ _ _ PY3.out.i1 PY3.out.i2 PY3.out.i3).mono ?_; rintro e w4 ⟨rfl, hb4⟩
  have X4 := Lib.hid ((hb4.block _ (lt_hp X3.out)).trans X3.out)
  have Z4 := Lib.hid ((hb4.block _ (lt_hp Z3.out)).trans Z3.out)
  have T4 := Lib.hid (tab_keep _ _ T3.out hb4)
  have PX4 := Lib.hid (PX3.out.keep hb4)
  have PY4 := Lib.hid (PY3.out.keep hb4)
  have B4 := Lib.hid (B3.out.trans (hb4.mono B3.out.size))
  clear hb4 X3 Z3 T3 PX3 PY3 B3 d0 d1 d2 d3 d4 d5
  go_wp2_with fail
  refine (insts_any _ T4.out).mono ?_; rintro e w5 ⟨rfl, hb5⟩
  have X5 := Lib.hid ((hb5.block _ (lt_hp X4.out)).trans X4.out)
  have Z5 := Lib.hid ((hb5.block _ (lt_hp Z4.out)).trans Z4.out)
  have PX5 := Lib.hid (PX4.out.keep hb5)
  have PY5 := Lib.hid (PY4.out.keep hb5)
  have B5 := Lib.hid (B4.out.trans (hb5.mono B4.out.size))
  clear hb5 X4 Z4 T4 PX4 PY4 B4
  obtain ⟨c0, c1, c2, c3, c4, c5⟩ := box6 X5.out
  obtain ⟨d0, d1, d2, d3, d4, d5⟩ := box6 Z5.out
  have HS := Lib.hid (same_any true kd N C kd N C wl vl wl vl cl cl (by simp) (some ⟨g1, 0, none⟩) (some ⟨g2, 0, none⟩) ca' (some ⟨g3, 0, none⟩) (some ⟨g4, 0, none⟩) cb' k1 k2 cc' k3 k4 cd' w5 PX5.out.i1 PX5.out.i2 PX5.out.i3 PY5.out.i1 PY5.out.i2 PY5.out.i3 (by omega) (by omega) (by omega) (by omega) (by omega))
  go_wp2_with fail
  refine HS.out.mono ?_; rintro e w6 ⟨rfl, hb6⟩
  have B6 := Lib.hid (B5.out.trans (hb6.mono B5.out.size))
  go_wp2
  go_ret
  exact ⟨rfl, B6.out⟩
end Go.Proofs.YtknpjeeclagmjaaDoor

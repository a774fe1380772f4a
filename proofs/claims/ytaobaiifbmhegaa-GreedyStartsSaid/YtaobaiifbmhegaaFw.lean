/-
  kurganlaw10.few: a problem's copy, of no more than nine.
-/
import Derived.Test.YtaobaiifbmhegaaFc
import Derived.Test.YtaobaiifbmhegaaPlainsW
import Derived.Test.YtaobaiifbmhegaaOpen
namespace Go.Proofs.Ytaobaiifbmhegaa
open Go.RowKit
set_option linter.unusedVariables false
/-- what few leaves: the same lists, another N maybe -/
def FwP (kd C : Int) (wl vl : List Int) (cl : List (List Int)) (w : World) (e : Ending) (w' : World) : Prop :=
  ∃ (N' : Int) (g1 k1 g2 k2 : Nat) (ca' : Option Addr) (cc' : Nat), e = .returned (.agg #[.int .i64 kd, .int .i64 N', .int .i64 C, .slice (some ⟨g1, 0, none⟩) wl.length k1, .slice (some ⟨g2, 0, none⟩) vl.length k2, .slice ca' cl.length cc']) ∧ Below w.heap.size w w' ∧ IntsO w' g1 wl ∧ IntsO w' g2 vl ∧ RwsO w.heap.size w' ca' cl
/-- a copy's lists -/
def L3 (B : Nat) (W : World) (g1 g2 : Nat) (ca : Option Addr) (wl vl : List Int) (cl : List (List Int)) : Prop := IntsO W g1 wl ∧ IntsO W g2 vl ∧ RwsO B W ca cl
theorem L3.keep {B : Nat} {W W1 : World} {g1 g2 : Nat} {ca : Option Addr} {wl vl : List Int} {cl : List (List Int)} (h : L3 B W g1 g2 ca wl vl cl) (hb : Below W.heap.size W W1) : L3 B W1 g1 g2 ca wl vl cl := ⟨h.1.keep hb, h.2.1.keep hb, h.2.2.keep hb⟩
theorem L3.other {B : Nat} {W W1 : World} {g1 g2 b : Nat} {ca : Option Addr} {wl vl : List Int} {cl : List (List Int)} {cs : Array Value} (h : L3 B W g1 g2 ca wl vl cl) (q : W.heap[b]? = some (.cells cs 25 (0, 0))) (he : ∀ k, k ≠ b → W1.heap[k]? = W.heap[k]?) : L3 B W1 g1 g2 ca wl vl cl :=
  ⟨h.1.same (he _ (h.1.ne q (by decide))), h.2.1.same (he _ (h.2.1.ne q (by decide))), h.2.2.other q he⟩
theorem L3.prob {B : Nat} {W : World} {g1 g2 : Nat} {ca : Option Addr} {wl vl : List Int} {cl : List (List Int)} (h : L3 B W g1 g2 ca wl vl cl) (l1 : wl.length ≤ 1000) (l2 : vl.length ≤ 1000) (l3 : cl.length ≤ 1000) : Prob W wl vl cl (some ⟨g1, 0, none⟩) (some ⟨g2, 0, none⟩) ca := ⟨h.1.ints, h.2.1.ints, h.2.2.rws, l1, l2, l3⟩
set_option maxRecDepth 100000 in
set_option maxHeartbeats 4000000 in
theorem few_any (kd N C : Int) (wl vl : List Int) (cl : List (List Int)) (wa va ca : Option Addr) (wn vn cn wc vc cc : Nat) (w : World) (h1 : Src w wa wn wc wl) (h2 : Src w va vn vc vl) (h3 : RSrc w ca cn cc cl) :
    Calls Try.prog 15 #[.agg #[.int .i64 kd, .int .i64 N, .int .i64 C, .slice wa wn wc, .slice va vn vc, .slice ca cn cc]] w (FwP kd C wl vl cl w) := by
  have bA : Below w.heap.size w ((w.alloc (.cells #[.int .i64 kd, .int .i64 N, .int .i64 C, .slice wa wn wc, .slice va vn vc, .slice ca cn cc] 25)).alloc (.cells #[.int .i64 0, .int .i64 0, .int .i64 0, .slice none 0 0, .slice none 0 0, .slice none 0 0] 25)) := bl_al (bl_al (Below.refl _ _) _) _
  have HC := Lib.hid (refcopy_any kd N C wl vl cl wa va ca wn vn cn wc vc cc _ (h1.keep bA) (h2.keep bA) (h3.keep bA))
  have Q1 := Lib.hid (heap_alloc2_old w (.cells #[.int .i64 kd, .int .i64 N, .int .i64 C, .slice wa wn wc, .slice va vn vc, .slice ca cn cc] 25) (.cells #[.int .i64 0, .int .i64 0, .int .i64 0, .slice none 0 0, .slice none 0 0, .slice none 0 0] 25))
  have Q2 := Lib.hid (heap_alloc2_new w (.cells #[.int .i64 kd, .int .i64 N, .int .i64 C, .slice wa wn wc, .slice va vn vc, .slice ca cn cc] 25) (.cells #[.int .i64 0, .int .i64 0, .int .i64 0, .slice none 0 0, .slice none 0 0, .slice none 0 0] 25))
  have l1 : wl.length ≤ 1000 := by have := h1.1; omega
  have l2 : vl.length ≤ 1000 := by have := h2.1; omega
  have l3 : cl.length ≤ 1000 := by have := h3.1; omega
  have HB := Lib.hid bA
  have BW := Lib.hid (show w.heap.size ≤ ((w.alloc (.cells #[.int .i64 kd, .int .i64 N, .int .i64 C, .slice wa wn wc, .slice va vn vc, .slice ca cn cc] 25)).alloc (.cells #[.int .i64 0, .int .i64 0, .int .i64 0, .slice none 0 0, .slice none 0 0, .slice none 0 0] 25)).heap.size from bA.size)
  clear h1 h2 h3 bA
  have HG : Hid (∀ (N' : Int) (g1 k1 g2 k2 : Nat) (ca' : Option Addr) (cc' : Nat) (W' : World), Below w.heap.size w W' → L3 w.heap.size W' g1 g2 ca' wl vl cl → FwP kd C wl vl cl w (.returned (.agg #[.int .i64 kd, .int .i64 N', .int .i64 C, .slice (some ⟨g1, 0, none⟩) wl.length k1, .slice (some ⟨g2, 0, none⟩) vl.length k2, .slice ca' cl.length cc'])) W') := fun N' g1 k1 g2 k2 ca' cc' W' hb h => ⟨N', g1, k1, g2, k2, ca', cc', rfl, hb, h⟩
  generalize FwP kd C wl vl cl w = G at *
  go_enter Try.func15, Try.ntmps15
  go_wp2_with fail
  refine HC.out.mono ?_; rintro e w1 ⟨g1, k1, g2, k2, ca', cc', rfl, hb, i1, i2, rw⟩
  have q1 := (hb.block _ (lt_hp Q1.out)).trans Q1.out
  have q2 := (hb.block _ (lt_hp Q2.out)).trans Q2.out
  have H3 : Hid (L3 w.heap.size w1 g1 g2 ca' wl vl cl) := ⟨i1, i2, fun j hj => by
    obtain ⟨g, cur, g', cj, e1, e2, e3, e4, e5, e6⟩ := rw j hj
    exact ⟨g, cur, g', cj, e1, e2, e3, e4, e5, Nat.le_trans BW.out e6⟩⟩
  have HB1 := Lib.hid (HB.out.trans (hb.mono BW.out))
  obtain ⟨c0, c1, c2, c3, c4, c5⟩ := box6 q1
  have cf := fr6 q1
  have hs := lt_hp q1
  have S1 := Lib.hid (six q1 (.int .i64 kd) (.int .i64 N) (.int .i64 C) (.slice (some ⟨g1, 0, none⟩) wl.length k1) (.slice (some ⟨g2, 0, none⟩) vl.length k2) (.slice ca' cl.length cc'))
  have S3 := Lib.hid (H3.out.other q1 (fun k hk => six_other (w := w1) hk (.int .i64 kd) (.int .i64 N) (.int .i64 C) (.slice (some ⟨g1, 0, none⟩) wl.length k1) (.slice (some ⟨g2, 0, none⟩) vl.length k2) (.slice ca' cl.length cc')))
  have S2 := Lib.hid ((six_other (w := w1) (k := w.heap.size + 1) (g := w.heap.size) (by omega) (.int .i64 kd) (.int .i64 N) (.int .i64 C) (.slice (some ⟨g1, 0, none⟩) wl.length k1) (.slice (some ⟨g2, 0, none⟩) vl.length k2) (.slice ca' cl.length cc')).trans q2)
  have SB := Lib.hid (six_below HB1.out (Nat.le_refl w.heap.size) (.int .i64 kd) (.int .i64 N) (.int .i64 C) (.slice (some ⟨g1, 0, none⟩) wl.length k1) (.slice (some ⟨g2, 0, none⟩) vl.length k2) (.slice ca' cl.length cc'))
  clear hb i1 i2 rw q1 q2 HC HB H3 HB1 BW Q1 Q2
  go_upto_region 2 with fail
  clear c0 c1 c2 c3 c4 c5 cf hs
  generalize ((((((w1.setCell ⟨w.heap.size, 0, none⟩ (.int .i64 kd)).setCell ⟨w.heap.size, 1, none⟩ (.int .i64 N)).setCell ⟨w.heap.size, 2, none⟩ (.int .i64 C)).setCell ⟨w.heap.size, 3, none⟩ (.slice (some ⟨g1, 0, none⟩) wl.length k1)).setCell ⟨w.heap.size, 4, none⟩ (.slice (some ⟨g2, 0, none⟩) vl.length k2)).setCell ⟨w.heap.size, 5, none⟩ (.slice ca' cl.length cc')) = X at *
  have RA := Lib.hid (ref_any kd N C wl vl cl (some ⟨g1, 0, none⟩) (some ⟨g2, 0, none⟩) ca' k1 k2 cc' X (S3.out.prob l1 l2 l3))
  have HN : Hid (∀ (N' : Int) (W : World), W.heap[w.heap.size]? = some (.cells #[.int .i64 kd, .int .i64 N', .int .i64 C, .slice (some ⟨g1, 0, none⟩) wl.length k1, .slice (some ⟨g2, 0, none⟩) vl.length k2, .slice ca' cl.length cc'] 25 (0, 0)) → W.heap[w.heap.size + 1]? = some (.cells #[.int .i64 0, .int .i64 0, .int .i64 0, .slice none 0 0, .slice none 0 0, .slice none 0 0] 25 (0, 0)) → L3 w.heap.size W g1 g2 ca' wl vl cl → Below w.heap.size w W →
      let W' := ((((((W.setCell ⟨w.heap.size + 1, 0, none⟩ (.int .i64 kd)).setCell ⟨w.heap.size + 1, 1, none⟩ (.int .i64 N')).setCell ⟨w.heap.size + 1, 2, none⟩ (.int .i64 C)).setCell ⟨w.heap.size + 1, 3, none⟩ (.slice (some ⟨g1, 0, none⟩) wl.length k1)).setCell ⟨w.heap.size + 1, 4, none⟩ (.slice (some ⟨g2, 0, none⟩) vl.length k2)).setCell ⟨w.heap.size + 1, 5, none⟩ (.slice ca' cl.length cc'))
      G (.returned (.agg #[.int .i64 kd, .int .i64 N', .int .i64 C, .slice (some ⟨g1, 0, none⟩) wl.length k1, .slice (some ⟨g2, 0, none⟩) vl.length k2, .slice ca' cl.length cc'])) W' ∧ (W'.cell? ⟨w.heap.size + 1, 0, none⟩ = some (.int .i64 kd) ∧ W'.cell? ⟨w.heap.size + 1, 1, none⟩ = some (.int .i64 N') ∧ W'.cell? ⟨w.heap.size + 1, 2, none⟩ = some (.int .i64 C) ∧ W'.cell? ⟨w.heap.size + 1, 3, none⟩ = some (.slice (some ⟨g1, 0, none⟩) wl.length k1) ∧ W'.cell? ⟨w.heap.size + 1, 4, none⟩ = some (.slice (some ⟨g2, 0, none⟩) vl.length k2) ∧ W'.cell? ⟨w.heap.size + 1, 5, none⟩ = some (.slice ca' cl.length cc'))) := fun N' W qa qb hl hb => by
    refine ⟨HG.out N' g1 k1 g2 k2 ca' cc' _ (six_below hb (by omega) _ _ _ _ _ _) (hl.other qb (fun k hk => six_other (w := W) hk _ _ _ _ _ _)), box6 (six qb _ _ _ _ _ _)⟩
  have HNs : Hid (∀ (N' : Int) (W : World), W.heap[w.heap.size]? = some (.cells #[.int .i64 kd, .int .i64 N, .int .i64 C, .slice (some ⟨g1, 0, none⟩) wl.length k1, .slice (some ⟨g2, 0, none⟩) vl.length k2, .slice ca' cl.length cc'] 25 (0, 0)) → W.heap[w.heap.size + 1]? = some (.cells #[.int .i64 0, .int .i64 0, .int .i64 0, .slice none 0 0, .slice none 0 0, .slice none 0 0] 25 (0, 0)) → L3 w.heap.size W g1 g2 ca' wl vl cl → Below w.heap.size w W →
      (W.setCell ⟨w.heap.size, 1, none⟩ (.int .i64 N')).heap[w.heap.size]? = some (.cells #[.int .i64 kd, .int .i64 N', .int .i64 C, .slice (some ⟨g1, 0, none⟩) wl.length k1, .slice (some ⟨g2, 0, none⟩) vl.length k2, .slice ca' cl.length cc'] 25 (0, 0)) ∧ (W.setCell ⟨w.heap.size, 1, none⟩ (.int .i64 N')).heap[w.heap.size + 1]? = some (.cells #[.int .i64 0, .int .i64 0, .int .i64 0, .slice none 0 0, .slice none 0 0, .slice none 0 0] 25 (0, 0)) ∧ L3 w.heap.size (W.setCell ⟨w.heap.size, 1, none⟩ (.int .i64 N')) g1 g2 ca' wl vl cl ∧ Below w.heap.size w (W.setCell ⟨w.heap.size, 1, none⟩ (.int .i64 N'))) := fun N' W qa qb hl hb => by
    refine ⟨(heap_setCell_same W w.heap.size 1 _ 25 _ qa).trans (by rfl), (heap_setCell_other W ⟨w.heap.size, 1, none⟩ (w.heap.size + 1) _ (by show w.heap.size + 1 ≠ w.heap.size; omega)).trans qb, hl.other qa (fun k hk => heap_setCell_other W ⟨w.heap.size, 1, none⟩ k _ hk), hb.setCell (p := ⟨w.heap.size, 1, none⟩) (Nat.le_refl _) _⟩
  clear HG
  obtain ⟨c0, c1, c2, c3, c4, c5⟩ := box6 S1.out
  have cf := fr6 S1.out
  have hs := lt_hp S1.out
  have df := fr6 S2.out
  have d0 := (box6 S2.out)
  by_cases h8 : 8 < N
  · clear RA
    go_upto_region 4 with fail
    have Z := Lib.hid (HNs.out (if 9 < N then 9 else N) X S1.out S2.out S3.out SB.out)
    generalize X.setCell ⟨w.heap.size, 1, none⟩ (.int .i64 (if 9 < N then 9 else N)) = Y at *
    generalize (if 9 < N then 9 else N) = M at *
    clear c0 c1 c2 c3 c4 c5 cf hs df d0
    have R := Lib.hid (HN.out M Y Z.out.1 Z.out.2.1 Z.out.2.2.1 Z.out.2.2.2)
    clear HN HNs
    obtain ⟨c0, c1, c2, c3, c4, c5⟩ := box6 Z.out.1
    have cf := fr6 Z.out.1
    have hs := lt_hp Z.out.1
    have df := fr6 Z.out.2.1
    obtain ⟨d0, d1, d2, d3, d4, d5⟩ := box6 Z.out.2.1
    go_wp2_with fail
    obtain ⟨m0, m1, m2, m3, m4, m5⟩ := R.out.2
    exact bodyPost_ret (v := .agg #[.int .i64 kd, .int .i64 M, .int .i64 C, .slice (some ⟨g1, 0, none⟩) wl.length k1, .slice (some ⟨g2, 0, none⟩) vl.length k2, .slice ca' cl.length cc']) (by simp [results, Try.results15, go_sem, m0, m1, m2, m3, m4, m5]) rfl R.out.1
  · by_cases hc : chk kd N C wl vl cl = 0
    · rw [hc] at RA
      go_wp2_with fail
      refine RA.out.mono ?_; rintro e X2 ⟨rfl, hb2⟩
      have T1 := Lib.hid ((hb2.block _ (lt_hp S1.out)).trans S1.out)
      have T2 := Lib.hid ((hb2.block _ (lt_hp S2.out)).trans S2.out)
      have T3 := Lib.hid (S3.out.keep hb2)
      have TB := Lib.hid (SB.out.trans (hb2.mono SB.out.size))
      clear RA hb2 c0 c1 c2 c3 c4 c5 cf hs df d0 S1 S2 S3 SB
      go_upto_region 4 with fail
      have R := Lib.hid (HN.out N X2 T1.out T2.out T3.out TB.out)
      clear HN HNs
      obtain ⟨c0, c1, c2, c3, c4, c5⟩ := box6 T1.out
      have cf := fr6 T1.out
      have hs := lt_hp T1.out
      have df := fr6 T2.out
      obtain ⟨d0, d1, d2, d3, d4, d5⟩ := box6 T2.out
      go_wp2_with fail
      obtain ⟨m0, m1, m2, m3, m4, m5⟩ := R.out.2
      exact bodyPost_ret (v := .agg #[.int .i64 kd, .int .i64 N, .int .i64 C, .slice (some ⟨g1, 0, none⟩) wl.length k1, .slice (some ⟨g2, 0, none⟩) vl.length k2, .slice ca' cl.length cc']) (by simp [results, Try.results15, go_sem, m0, m1, m2, m3, m4, m5]) rfl R.out.1
    · have hc' : (chk kd N C wl vl cl != 0) = true := by simpa using hc
      clear hc
      generalize chk kd N C wl vl cl = ce at *
      go_wp2_with fail
      refine RA.out.mono ?_; rintro e X2 ⟨rfl, hb2⟩
      have T1 := Lib.hid ((hb2.block _ (lt_hp S1.out)).trans S1.out)
      have T2 := Lib.hid ((hb2.block _ (lt_hp S2.out)).trans S2.out)
      have T3 := Lib.hid (S3.out.keep hb2)
      have TB := Lib.hid (SB.out.trans (hb2.mono SB.out.size))
      clear RA hb2 c0 c1 c2 c3 c4 c5 cf hs df d0 S1 S2 S3 SB
      obtain ⟨c0, c1, c2, c3, c4, c5⟩ := box6 T1.out
      have cf := fr6 T1.out
      have hs := lt_hp T1.out
      have df := fr6 T2.out
      have d0 := (box6 T2.out)
      go_upto_region 4 with fail
      have Z := Lib.hid (HNs.out N X2 T1.out T2.out T3.out TB.out)
      generalize X2.setCell ⟨w.heap.size, 1, none⟩ (.int .i64 N) = Y at *
      clear c0 c1 c2 c3 c4 c5 cf hs df d0
      have R := Lib.hid (HN.out N Y Z.out.1 Z.out.2.1 Z.out.2.2.1 Z.out.2.2.2)
      clear HN HNs
      obtain ⟨c0, c1, c2, c3, c4, c5⟩ := box6 Z.out.1
      have cf := fr6 Z.out.1
      have hs := lt_hp Z.out.1
      have df := fr6 Z.out.2.1
      obtain ⟨d0, d1, d2, d3, d4, d5⟩ := box6 Z.out.2.1
      go_wp2_with fail
      obtain ⟨m0, m1, m2, m3, m4, m5⟩ := R.out.2
      exact bodyPost_ret (v := .agg #[.int .i64 kd, .int .i64 N, .int .i64 C, .slice (some ⟨g1, 0, none⟩) wl.length k1, .slice (some ⟨g2, 0, none⟩) vl.length k2, .slice ca' cl.length cc']) (by simp [results, Try.results15, go_sem, m0, m1, m2, m3, m4, m5]) rfl R.out.1
end Go.Proofs.Ytaobaiifbmhegaa

/-
  The first statement of kurganlaw05.InstCopies: both problems copied into their boxes.
-/
import Derived.Test.YtknpjeeclagmjaaDoorCF
import Derived.Test.YtknpjeeclagmjaaDoorISame
import Derived.Test.YtknpjeeclagmjaaDoorWritesL
import Derived.Deep.RegionLaw
import Derived.Deep.DeepCutAuto
namespace Go.Proofs.YtknpjeeclagmjaaDoor
open Go.RowKit
set_option linter.unusedVariables false
/-- a problem's copy lies in a box -/
def InBox (p : Nat) (kd N C : Int) (wl vl : List Int) (cl : List (List Int)) (W : World) : Prop := ∃ (g1 k1 g2 k2 : Nat) (ra : Option Addr) (rc : Nat), W.heap[p]? = some (.cells #[.int .i64 kd, .int .i64 N, .int .i64 C, .slice (some ⟨g1, 0, none⟩) wl.length k1, .slice (some ⟨g2, 0, none⟩) vl.length k2, .slice ra cl.length rc] 25 (0, 0)) ∧ IntsO W g1 wl ∧ IntsO W g2 vl ∧ (∃ B, RwsO B W ra cl) ∧ CapOK wl.length k1 ∧ CapOK vl.length k2 ∧ CapOK cl.length rc ∧ (ra = none → rc = 0)
def AB (w : World) (kd N C kd' N' C' : Int) (wl vl wl' vl' : List Int) (cl cl' : List (List Int)) (W : World) : Prop := InBox w.heap.size kd N C wl vl cl W ∧ InBox (w.heap.size + 1) kd' N' C' wl' vl' cl' W ∧ Below w.heap.size w W ∧ Tab W
theorem ab_of {w x2 : World} {kd N C kd' N' C' : Int} {wl vl wl' vl' : List Int} {cl cl' : List (List Int)} {wa va ca wa' va' ca' : Option Addr} {wn vn cn wc vc cc wn' vn' cn' wc' vc' cc' g1 k1 g2 k2 rc g3 k3 g4 k4 rd E F : Nat} {ra rb : Option Addr}
    (qa : x2.heap[w.heap.size]? = some (.cells #[.int .i64 kd, .int .i64 N, .int .i64 C, .slice wa wn wc, .slice va vn vc, .slice ca cn cc] 25 (0, 0))) (qb : x2.heap[w.heap.size + 1]? = some (.cells #[.int .i64 kd', .int .i64 N', .int .i64 C', .slice wa' wn' wc', .slice va' vn' vc', .slice ca' cn' cc'] 25 (0, 0))) (hb : Below w.heap.size w x2) (ht : Tab x2) (hp : 0 < w.heap.size)
    (i1 : IntsO x2 g1 wl) (i2 : IntsO x2 g2 vl) (i3 : RwsO E x2 ra cl) (j1 : IntsO x2 g3 wl') (j2 : IntsO x2 g4 vl') (j3 : RwsO F x2 rb cl') (p1 : CapOK wl.length k1) (p2 : CapOK vl.length k2) (p3 : CapOK cl.length rc) (p4 : ra = none → rc = 0) (q1 : CapOK wl'.length k3) (q2 : CapOK vl'.length k4) (q3 : CapOK cl'.length rd) (q4 : rb = none → rd = 0) :
    (((((((x2.setCell ⟨w.heap.size, 0, none⟩ (.int .i64 kd)).setCell ⟨w.heap.size, 1, none⟩ (.int .i64 N)).setCell ⟨w.heap.size, 2, none⟩ (.int .i64 C)).setCell ⟨w.heap.size, 3, none⟩ (.slice (some ⟨g1, 0, none⟩) wl.length k1)).setCell ⟨w.heap.size, 4, none⟩ (.slice (some ⟨g2, 0, none⟩) vl.length k2)).setCell ⟨w.heap.size, 5, none⟩ (.slice ra cl.length rc)).heap[w.heap.size + 1]? = some (.cells #[.int .i64 kd', .int .i64 N', .int .i64 C', .slice wa' wn' wc', .slice va' vn' vc', .slice ca' cn' cc'] 25 (0, 0))) ∧ AB w kd N C kd' N' C' wl vl wl' vl' cl cl' ((((((((((((x2.setCell ⟨w.heap.size, 0, none⟩ (.int .i64 kd)).setCell ⟨w.heap.size, 1, none⟩ (.int .i64 N)).setCell ⟨w.heap.size, 2, none⟩ (.int .i64 C)).setCell ⟨w.heap.size, 3, none⟩ (.slice (some ⟨g1, 0, none⟩) wl.length k1)).setCell ⟨w.heap.size, 4, none⟩ (.slice (some ⟨g2, 0, none⟩) vl.length k2)).setCell ⟨w.heap.size, 5, none⟩ (.slice ra cl.length rc)).setCell ⟨w.heap.size + 1, 0, none⟩ (.int .i64 kd')).setCell ⟨w.heap.size + 1, 1, none⟩ (.int .i64 N')).setCell ⟨w.heap.size + 1, 2, none⟩ (.int .i64 C')).setCell ⟨w.heap.size + 1, 3, none⟩ (.slice (some ⟨g3, 0, none⟩) wl'.length k3)).setCell ⟨w.heap.size + 1, 4, none⟩ (.slice (some ⟨g4, 0, none⟩) vl'.length k4)).setCell ⟨w.heap.size + 1, 5, none⟩ (.slice rb cl'.length rd)) := by
  have oa : ∀ k, k ≠ w.heap.size → _ = _ := fun k hk => six_other (w := x2) hk (.int .i64 kd) (.int .i64 N) (.int .i64 C) (.slice (some ⟨g1, 0, none⟩) wl.length k1) (.slice (some ⟨g2, 0, none⟩) vl.length k2) (.slice ra cl.length rc)
  have ea := six qa (.int .i64 kd) (.int .i64 N) (.int .i64 C) (.slice (some ⟨g1, 0, none⟩) wl.length k1) (.slice (some ⟨g2, 0, none⟩) vl.length k2) (.slice ra cl.length rc)
  have ba := six_below hb (Nat.le_refl _) (.int .i64 kd) (.int .i64 N) (.int .i64 C) (.slice (some ⟨g1, 0, none⟩) wl.length k1) (.slice (some ⟨g2, 0, none⟩) vl.length k2) (.slice ra cl.length rc)
  have ta := tab_b ht (six_below (Below.refl w.heap.size x2) (Nat.le_refl _) (.int .i64 kd) (.int .i64 N) (.int .i64 C) (.slice (some ⟨g1, 0, none⟩) wl.length k1) (.slice (some ⟨g2, 0, none⟩) vl.length k2) (.slice ra cl.length rc)) hp
  have eb0 := (oa (w.heap.size + 1) (by omega)).trans qb
  refine ⟨eb0, ?_⟩
  have i1 := i1.same (oa _ (i1.ne qa (by decide)))
  have i2 := i2.same (oa _ (i2.ne qa (by decide)))
  have i3 := i3.other qa oa
  have j1 := j1.same (oa _ (j1.ne qa (by decide)))
  have j2 := j2.same (oa _ (j2.ne qa (by decide)))
  have j3 := j3.other qa oa
  generalize ((((((x2.setCell ⟨w.heap.size, 0, none⟩ (.int .i64 kd)).setCell ⟨w.heap.size, 1, none⟩ (.int .i64 N)).setCell ⟨w.heap.size, 2, none⟩ (.int .i64 C)).setCell ⟨w.heap.size, 3, none⟩ (.slice (some ⟨g1, 0, none⟩) wl.length k1)).setCell ⟨w.heap.size, 4, none⟩ (.slice (some ⟨g2, 0, none⟩) vl.length k2)).setCell ⟨w.heap.size, 5, none⟩ (.slice ra cl.length rc)) = Y at *
  have ob : ∀ k, k ≠ w.heap.size + 1 → _ = _ := fun k hk => six_other (w := Y) hk (.int .i64 kd') (.int .i64 N') (.int .i64 C') (.slice (some ⟨g3, 0, none⟩) wl'.length k3) (.slice (some ⟨g4, 0, none⟩) vl'.length k4) (.slice rb cl'.length rd)
  have eb := six eb0 (.int .i64 kd') (.int .i64 N') (.int .i64 C') (.slice (some ⟨g3, 0, none⟩) wl'.length k3) (.slice (some ⟨g4, 0, none⟩) vl'.length k4) (.slice rb cl'.length rd)
  have bb := six_below ba (show w.heap.size ≤ w.heap.size + 1 by omega) (.int .i64 kd') (.int .i64 N') (.int .i64 C') (.slice (some ⟨g3, 0, none⟩) wl'.length k3) (.slice (some ⟨g4, 0, none⟩) vl'.length k4) (.slice rb cl'.length rd)
  have tb := tab_b ta (six_below (Below.refl w.heap.size Y) (show w.heap.size ≤ w.heap.size + 1 by omega) (.int .i64 kd') (.int .i64 N') (.int .i64 C') (.slice (some ⟨g3, 0, none⟩) wl'.length k3) (.slice (some ⟨g4, 0, none⟩) vl'.length k4) (.slice rb cl'.length rd)) hp
  exact ⟨⟨g1, k1, g2, k2, ra, rc, (ob _ (by omega)).trans ea, i1.same (ob _ (i1.ne eb0 (by decide))), i2.same (ob _ (i2.ne eb0 (by decide))), ⟨E, i3.other eb0 ob⟩, p1, p2, p3, p4⟩, ⟨g3, k3, g4, k4, rb, rd, eb, j1.same (ob _ (j1.ne eb0 (by decide))), j2.same (ob _ (j2.ne eb0 (by decide))), ⟨F, j3.other eb0 ob⟩, q1, q2, q3, q4⟩, bb, tb⟩
end Go.Proofs.YtknpjeeclagmjaaDoor

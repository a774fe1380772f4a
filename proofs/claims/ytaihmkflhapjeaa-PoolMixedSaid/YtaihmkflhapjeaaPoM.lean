/-
  How PoolAlone begins.
-/
import Derived.Test.YtaihmkflhapjeaaPoL
import Derived.Test.YtaihmkflhapjeaaPNewsL
namespace Go.Proofs.Ytaihmkflhapjeaa
open Go.RowKit Go.MuLone
set_option linter.unusedVariables false
theorem sta_begin {A : Ad} {l' : List Int} {w w3 w4 : World} {q g cap : Nat} (hbase : A.base = 3) (hAk : A.k = 1) (hsz : w.heap.size ≤ A.p ∧ w.heap.size ≤ A.g ∧ w.heap.size ≤ A.b ∧ w.heap.size ≤ A.bn ∧ w.heap.size ≤ A.bh ∧ w.heap.size ≤ A.bo) (hlf : LF l' 3 A.n) (hl : l'.length = 3 + (A.n + 1)) (po : Po A (fun _ => .slice none 0 0) (fun _ => 0) (fun _ => false) (fun _ => .slice none 0 0) l' ((A.n : Int) + 1) w3) (bl : Below w.heap.size w w3) (hq : q = w3.heap.size) (hg : q < g) (hR : RH q g A.n cap (fun _ => false) w4) (hb4 : Below w3.heap.size w3 w4) (hn : A.n ≤ 30) :
    Sta A q g cap w.heap.size w A.n ((A.n : Int) + 1) w4 := by
  have hlt := po.lt
  have hs := bl.size
  have hs4 := hb4.size
  have ht : nth l' A.base = 1 := by rw [hbase]; exact hlf.top
  have hR' := hR
  obtain ⟨r1, r2, r3, ⟨cur, r4⟩, r5⟩ := hR'
  have q1 := lt_hp r1
  have q2 := lt_hp r4
  refine ⟨fun _ => .slice none 0 0, fun _ => 0, fun _ => false, [], List.range' 0 A.n, (A.n : Int) + 1, fun _ => .slice none 0 0, l', ⟨po.up hb4, .inl ⟨rfl, rfl⟩, fun i hi => by simp [vblk] at hi, fun i hi => by simp [vblk] at hi, fun i hi => ?_, fun i hi => ?_, by omega, by omega, by omega, ?_, by simp, fun m hm => ?_, ?_, fun j hj _ => ?_, by omega, by omega, hAk⟩, hR, by simp, by omega, bl.trans (hb4.mono hs), by omega, by omega⟩
  · have hiq : i ≠ q ∧ i ≠ g ∧ w.heap.size ≤ i := by
      rcases hi with rfl | rfl | rfl | rfl | rfl | rfl <;> omega
    refine ⟨hiq.2.2, fun hm => ?_⟩
    simp at hm
    rcases hm with h | h
    · exact hiq.1 h
    · exact hiq.2.1 h
  · simp at hi
    rcases hi with rfl | rfl
    · exact q1
    · exact q2
  · rw [ht, tpl1, hbase]
    exact lf_stk hlf A.n 0 (by omega)
  · simp [List.mem_range'] at hm
    exact ⟨by omega, rfl⟩
  · simp only [List.nil_append]
    exact List.nodup_range'
  · simp only [List.nil_append, List.mem_range'_1]
    omega
end Go.Proofs.Ytaihmkflhapjeaa

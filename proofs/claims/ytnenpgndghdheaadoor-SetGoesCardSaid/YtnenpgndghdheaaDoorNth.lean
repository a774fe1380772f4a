/-
  What Nth answers: a range over All that comes back out of its body.
-/
import Derived.Test.YtnenpgndghdheaaDoorList
import Derived.Test.YtnenpgndghdheaaDoorSetM
import Derived.Test.YtnenpgndghdheaaDoorSets2
namespace Go.Proofs.YtnenpgndghdheaaDoor
open Go.RowKit Go.Shelf
set_option linter.unusedVariables false
attribute [local go_sem] Oper.semAt_some
set_option maxRecDepth 100000 in
set_option maxHeartbeats 2000000 in
theorem nth_core (x y : Nat) (hx : x < 18446744073709551616) (hy : y < 18446744073709551616) (k : Nat) (hk : k ≤ 128) (w : World) (hT : T64 w) :
    Calls Tryd.prog 19 #[.agg #[.int .u64 x, .int .u64 y], .int .i64 k] w fun e W' => e = .returned (.int .i64 ((both x y)[k]?.getD (-1))) ∧ Below w.heap.size w W' := by
  have hblen := both_len x y
  have hsz := hT.1
  refine (callsIn_wide (n := 8)).1 ?_
  refine callsIn_of_wp_marks Tryd.func19 rfl trivial ?_ rfl
  simp only [Tryd.ntmps19, List.size_toArray, List.length_cons, List.length_nil, Nat.reduceAdd, Nat.reduceSub, Array.replicate_succ, Array.replicate_zero, List.push_toArray, List.append_toArray, List.nil_append, List.cons_append]
  gi_wp2_with (refine ⟨trivial, ?_⟩; gi_at_call 13; refine (callsIn_wide.2 (all_any x y _)).mono ?_; rintro e w2 ⟨rfl, rfl⟩)
  have q3 := ((Boxed.new (w.alloc (.cells #[.int .u64 x, .int .u64 y] 24)) 3 (.int .i64 k)).alloc (.cells #[.int .i64 0] 3)).alloc (.cells #[.int .u64 x, .int .u64 y] 24)
  have q4 := (Boxed.new ((w.alloc (.cells #[.int .u64 x, .int .u64 y] 24)).alloc (.cells #[.int .i64 k] 3)) 3 (.int .i64 0)).alloc (.cells #[.int .u64 x, .int .u64 y] 24)
  have q5 : (((((w.alloc (.cells #[.int .u64 x, .int .u64 y] 24)).alloc (.cells #[.int .i64 k] 3)).alloc (.cells #[.int .i64 0] 3)).alloc (.cells #[.int .u64 x, .int .u64 y] 24))).heap[w.heap.size + 1 + 1 + 1]? = some (.cells #[.int .u64 x, .int .u64 y] 24 (0, 0)) := by
    have := World.alloc_heap_new (((w.alloc (.cells #[.int .u64 x, .int .u64 y] 24)).alloc (.cells #[.int .i64 k] 3)).alloc (.cells #[.int .i64 0] 3)) (.cells #[.int .u64 x, .int .u64 y] 24)
    rw [World.size_alloc, World.size_alloc, World.size_alloc] at this
    exact this
  rw [World.size_alloc] at q3
  rw [World.size_alloc, World.size_alloc] at q4
  have hB0 : Below w.heap.size w ((((w.alloc (.cells #[.int .u64 x, .int .u64 y] 24)).alloc (.cells #[.int .i64 k] 3)).alloc (.cells #[.int .i64 0] 3)).alloc (.cells #[.int .u64 x, .int .u64 y] 24)) := bl_al (bl_al (bl_al (bl_al (Below.refl _ w) _) _) _) _
  have hsz0 : ((((w.alloc (.cells #[.int .u64 x, .int .u64 y] 24)).alloc (.cells #[.int .i64 k] 3)).alloc (.cells #[.int .i64 0] 3)).alloc (.cells #[.int .u64 x, .int .u64 y] 24)).heap.size = w.heap.size + 1 + 1 + 1 + 1 := by simp
  obtain ⟨c0, c1⟩ := two_keep (Below.refl _ _) q5
  generalize ((((w.alloc (.cells #[.int .u64 x, .int .u64 y] 24)).alloc (.cells #[.int .i64 k] 3)).alloc (.cells #[.int .i64 0] 3)).alloc (.cells #[.int .u64 x, .int .u64 y] 24)) = X at *
  refine wpIn_rangeFunc_ownG rfl (by omega) (gf := 24) (lb := #[.pointer (some ⟨w.heap.size + 1 + 1 + 1, 0, none⟩)]) rfl trivial (enters_of Tryd.func24 (by kernel_rfl) rfl)
    (all_stops (8 - 1) (by omega) (w.heap.size + 1 + 1 + 1) w.heap.size x y hx hy X hsz (by omega) (by omega) (hT.keep hB0) c0 c1) belowK_t (belowK_b (by omega)) (Below.refl _ _) (fun _ => rfl)
    (fun pre W => (Boxed W (w.heap.size + 1) 3 (.int .i64 ((k : Int) - (pre.length : Int))) ∧ Boxed W (w.heap.size + 1 + 1) 3 (.int .i64 0) ∧ pre.length ≤ k) ∧ Below w.heap.size w W)
    (fun c pre W => (∃ (v : Int) (p : List Int), c = .ret ∧ pre = p ++ [v] ∧ p.length = k ∧ Boxed W (w.heap.size + 1 + 1) 3 (.int .i64 v)) ∧ Below w.heap.size w W)
    (OwnFrom.and (Own.from (fun s A B row hs hg hr => ⟨boxed_own (w.heap.size + 1) 3 (fun pre : List Int => Value.int .i64 ((k : Int) - (pre.length : Int))) s A B row hs.1 hg hr, boxed_own (w.heap.size + 1 + 1) 3 (fun _ : List Int => Value.int .i64 0) s A B row hs.2.1 hg hr, hs.2.2⟩) _) (ownFrom_below (Nat.le_refl _) (by omega)))
    (fun c => OwnFrom.and (Own.from (fun s A B row hs hg hr => by
      obtain ⟨v, p, h1, h2, h3, h4⟩ := hs
      exact ⟨v, p, h1, h2, h3, boxed_own (w.heap.size + 1 + 1) 3 (fun _ : List Int => Value.int .i64 v) s A B row h4 hg hr⟩) _) (ownFrom_below (Nat.le_refl _) (by omega)))
    ⟨⟨by simpa using q3, q4, by simp⟩, hB0⟩
    (fun v => { tmps := #[.agg #[.int .u64 x, .int .u64 y], .int .i64 k, .pointer (some ⟨w.heap.size, 0, none⟩), .pointer (some ⟨w.heap.size + 1, 0, none⟩), .pointer (some ⟨w.heap.size + 1 + 1, 0, none⟩), .int .i64 v, .agg #[.int .u64 x, .int .u64 y], .func (.func 24) #[] #[.pointer (some ⟨w.heap.size + 1 + 1 + 1, 0, none⟩)], .int .i64 v, undef, undef, undef, undef, undef], defers := [] }) ?assign ?body ?done ?stop
  case assign =>
    intro l v W K hK
    gi_wp2
    exact hK
  case body =>
    rintro l pre z W ⟨⟨hb3, hb4, hle⟩, hB⟩ hlt
    have d3 := hb3.cell
    have f3 := hb3.frozen
    have d4 := hb4.cell
    have f4 := hb4.frozen
    by_cases hz : pre.length = k
    · rw [show (k : Int) - (pre.length : Int) = 0 by omega] at d3
      gi_wp2
      exact ⟨(KeepsOthers.setCell _ _ _).from _, ⟨⟨z, pre, rfl, rfl, hz, hb4.set _⟩, hB.setCell (p := ⟨w.heap.size + 1 + 1, 0, none⟩) (by show w.heap.size ≤ w.heap.size + 1 + 1; omega) _⟩⟩
    · have g1 : (((k : Int) - (pre.length : Int)) == 0) = false := by simp; omega
      have g2 : IntKind.i64.wrap ((k : Int) - (pre.length : Int) - 1) = (k : Int) - ((pre.length + 1 : Nat) : Int) := by rw [IntWalk.i64_in _ (by omega)]; omega
      gi_wp2
      exact ⟨(KeepsOthers.setCell _ _ _).from _, (Below.refl _ W).setCell (p := ⟨w.heap.size + 1, 0, none⟩) (by show w.heap.size ≤ w.heap.size + 1; omega) _, ⟨by simpa using hb3.set _, hb4.other (by omega) _, by simp; omega⟩, hB.setCell (p := ⟨w.heap.size + 1, 0, none⟩) (by show w.heap.size ≤ w.heap.size + 1; omega) _⟩
  case done =>
    rintro D ys W hD rfl ⟨⟨hb3, hb4, hle⟩, hB⟩ hK
    have d4 := hb4.cell
    have f4 := hb4.frozen
    gi_wp2
    have hK2 := (KeepsOthers.setCell W ⟨w.heap.size + 1 + 1, 0, none⟩ (.int .i64 (-1))).same D _ hK rfl
    have hb5 := hb4.set (.int .i64 (-1))
    have hB5 := hB.setCell (p := ⟨w.heap.size + 1 + 1, 0, none⟩) (by show w.heap.size ≤ w.heap.size + 1 + 1; omega) (.int .i64 (-1))
    refine ⟨by simp, .inl ⟨_, _, rfl, run_takeDeferred hK2, ?_⟩⟩
    have hc5 := cell_kept hb5.cell (grownBy_putObj' _ D (.deferred none)) (fun r e => by cases e; exact ⟨_, hK2, rfl⟩)
    have hlen : (both x y)[k]? = none := List.getElem?_eq_none hle
    rw [hlen]
    refine ⟨.int .i64 (-1), ?_, rfl, hB5.trans (belowK_b (w := X) (by omega) _ D _ _ hD hK2 rfl rfl)⟩
    simp [results, Tryd.results19, go_sem, hc5]
  case stop =>
    rintro D c pre W hD hp ⟨⟨v, p, rfl, rfl, hpl, hb4⟩, hB⟩ hK
    gi_wp2
    refine ⟨by simp, .inl ⟨_, _, rfl, run_takeDeferred hK, ?_⟩⟩
    have hc5 := cell_kept hb4.cell (grownBy_putObj' _ D (.deferred none)) (fun r e => by cases e; exact ⟨_, hK, rfl⟩)
    have hlen : (both x y)[k]? = some v := by
      obtain ⟨s, hs⟩ := hp
      rw [← hs, ← hpl]
      simp
    rw [hlen]
    refine ⟨.int .i64 v, ?_, rfl, hB.trans (belowK_b (w := X) (by omega) _ D _ _ hD hK rfl rfl)⟩
    simp [results, Tryd.results19, go_sem, hc5]
end Go.Proofs.YtnenpgndghdheaaDoor

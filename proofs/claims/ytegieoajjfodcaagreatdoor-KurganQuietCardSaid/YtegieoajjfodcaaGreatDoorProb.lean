/-
  problem.
-/
import Derived.Test.YtegieoajjfodcaaGreatDoorKsw
namespace Go.Proofs.YtegieoajjfodcaaGreatDoor
open Go.RowKit
set_option linter.unusedVariables false
theorem name1 (w : World) : Calls Tryz.prog 41 #[.int .i64 1] w fun e w' => e = .returned (.string ⟨#[75, 78, 65, 80, 83, 65, 67, 75]⟩) ∧ w = w' := ip.name_any 1 w
theorem name2 (w : World) : Calls Tryz.prog 41 #[.int .i64 2] w fun e w' => e = .returned (.string ⟨#[65, 83, 83, 73, 71, 78, 77, 69, 78, 84]⟩) ∧ w = w' := ip.name_any 2 w
theorem name3 (w : World) : Calls Tryz.prog 41 #[.int .i64 3] w fun e w' => e = .returned (.string ⟨#[84, 83, 80]⟩) ∧ w = w' := ip.name_any 3 w
/-- the three words in a block -/
def three : Obj := .cells #[.string ⟨#[75, 78, 65, 80, 83, 65, 67, 75]⟩, .string ⟨#[65, 83, 83, 73, 71, 78, 77, 69, 78, 84]⟩, .string ⟨#[84, 83, 80]⟩] 9 (0, 0)
theorem word3_s (b g C : Nat) (T : List Tok) (s : St) (w : World) (h : RS b g C T s w) :
    Calls Tryz.prog 40 #[.pointer (some ⟨b, 0, none⟩), .slice (some ⟨w.heap.size, 0, none⟩) 3 3] (w.alloc three) fun r w' => r = .returned (.int .i64 (idx3 (tk T s.p).text)) ∧ RS b g C T (adv s (wf (tk T s.p) (idx3 (tk T s.p).text))) w' ∧ (w.alloc three).grownBy w' (some b) := by
  have hc : ∀ j, j < [nm1, nm2, nm3].length → (w.alloc three).cell? ⟨w.heap.size, j, none⟩ = some (.string ([nm1, nm2, nm3][j]?.getD noText)) := fun j hj => by
    rw [cell_of_row _ _ _ _ _ _ (show (w.alloc three).heap[w.heap.size]? = some three from heap_alloc_new w three)]
    match j, hj with
    | 0, _ => rfl
    | 1, _ => rfl
    | 2, _ => rfl
  have H := word_core b g C T s (tk T s.p) rfl [nm1, nm2, nm3] w.heap.size 3 (w.alloc three) (h.alloc three) (by decide) hc (idx3 (tk T s.p).text) (ix3 _).symm
  exact H
/-- what problem answers -/
def PPost (b g C : Nat) (T : List Tok) (w : World) (r : Ending) (w' : World) : Prop :=
  if idx3 (tk T 0).text = 1 then TPost 2 b g C T (PS T) (nOf T (s1 T) 24) (FA T (sz T (s1 T) 24) (nOf T (s1 T) 24)) w r w'
  else if idx3 (tk T 0).text = 2 then TPost 3 b g C T (PS T) (nOf T (s1 T) 24) (FT T (s3 T (sz T (s1 T) 24)) (nOf T (s1 T) 24) (idx2 (tk T (sz T (s1 T) 24).p).text)) w r w'
  else KPost b g C T (sz T (s1 T) 64) (PS T) (nOf T (s1 T) 64) w r w'
/-- the answer is moved into the box q -/
theorem t_out {K : Int} {b g C : Nat} {T : List Tok} {s : St} {n : Nat} {M : Nat → Nat → Int} {w w1 w2 : World} {r : Ending} {cs : Array Value} {q : Nat} (h : TPost K b g C T s n M w1 r w2) (hw : w.grownBy w1 (some b)) (hq : w1.heap[q]? = some (.cells cs 30 (0, 0))) (h0 : w.heap.size ≤ q) (hqb : q ≠ b) :
    ∃ (gc : Nat), r = .returned (.agg #[.int .i64 K, .int .i64 n, .int .i64 0, .slice none 0 0, .slice none 0 0, .slice (some ⟨gc, 0, none⟩) n n]) ∧ w2.heap[q]? = some (.cells cs 30 (0, 0)) ∧
    ∀ v0 v1 v2 v3 v4 v5 : Value, TPost K b g C T s n M w r ((((((w2.setCell ⟨q, 0, none⟩ v0).setCell ⟨q, 1, none⟩ v1).setCell ⟨q, 2, none⟩ v2).setCell ⟨q, 3, none⟩ v3).setCell ⟨q, 4, none⟩ v4).setCell ⟨q, 5, none⟩ v5) := by
  obtain ⟨gc, gs, rfl, hR, hT, hG⟩ := h
  have hql := lt_blk hq
  have hq2 := (hG.block q hql (fun e => hqb (by injection e))).trans hq
  refine ⟨gc, rfl, hq2, fun v0 v1 v2 v3 v4 v5 => ⟨gc, gs, rfl, ?_, ?_, ?_⟩⟩
  · obtain ⟨h1, h2⟩ := hR.far hq2 (by decide) (by decide)
    exact (((((hR.set h1 h2 0 v0).set h1 h2 1 v1).set h1 h2 2 v2).set h1 h2 3 v3).set h1 h2 4 v4).set h1 h2 5 v5
  · exact ((((((hT.set hql 0 v0).set hql 1 v1).set hql 2 v2).set hql 3 v3).set hql 4 v4).set hql 5 v5).le hw.size
  · exact grown_set (grown_set (grown_set (grown_set (grown_set (grown_set (hw.trans hG) h0 v0) h0 v1) h0 v2) h0 v3) h0 v4) h0 v5
theorem k_out2 {b g C : Nat} {T : List Tok} {S s : St} {n : Nat} {w w1 w2 : World} {r : Ending} {cs : Array Value} {q : Nat} (h : KPost b g C T S s n w1 r w2) (hw : w.grownBy w1 (some b)) (hq : w1.heap[q]? = some (.cells cs 30 (0, 0))) (h0 : w.heap.size ≤ q) (hqb : q ≠ b) :
    ∃ (aw av : Option Addr) (cw cv : Nat), r = .returned (.agg #[.int .i64 1, .int .i64 n, .int .i64 (vn eK T S 0), .slice aw n cw, .slice av n cv, .slice none 0 0]) ∧ w2.heap[q]? = some (.cells cs 30 (0, 0)) ∧
    ∀ v0 v1 v2 v3 v4 v5 : Value, KPost b g C T S s n w r ((((((w2.setCell ⟨q, 0, none⟩ v0).setCell ⟨q, 1, none⟩ v1).setCell ⟨q, 2, none⟩ v2).setCell ⟨q, 3, none⟩ v3).setCell ⟨q, 4, none⟩ v4).setCell ⟨q, 5, none⟩ v5) := by
  obtain ⟨aw, av, cw, cv, rfl, hW, hV, hR, hG⟩ := h
  have hql := lt_blk hq
  have hq2 := (hG.block q hql (fun e => hqb (by injection e))).trans hq
  have hz := hw.size
  refine ⟨aw, av, cw, cv, rfl, hq2, fun v0 v1 v2 v3 v4 v5 => ⟨aw, av, cw, cv, rfl, ?_, ?_, ?_, ?_⟩⟩
  · exact Go.Joins.ownsRow_le (ownsRow_setCell_below (a := ⟨q, 5, none⟩) (ownsRow_setCell_below (a := ⟨q, 4, none⟩) (ownsRow_setCell_below (a := ⟨q, 3, none⟩) (ownsRow_setCell_below (a := ⟨q, 2, none⟩) (ownsRow_setCell_below (a := ⟨q, 1, none⟩) (ownsRow_setCell_below (a := ⟨q, 0, none⟩) hW hql v0) hql v1) hql v2) hql v3) hql v4) hql v5) hz
  · exact Go.Joins.ownsRow_le (ownsRow_setCell_below (a := ⟨q, 5, none⟩) (ownsRow_setCell_below (a := ⟨q, 4, none⟩) (ownsRow_setCell_below (a := ⟨q, 3, none⟩) (ownsRow_setCell_below (a := ⟨q, 2, none⟩) (ownsRow_setCell_below (a := ⟨q, 1, none⟩) (ownsRow_setCell_below (a := ⟨q, 0, none⟩) hV hql v0) hql v1) hql v2) hql v3) hql v4) hql v5) hz
  · obtain ⟨h1, h2⟩ := hR.far hq2 (by decide) (by decide)
    exact (((((hR.set h1 h2 0 v0).set h1 h2 1 v1).set h1 h2 2 v2).set h1 h2 3 v3).set h1 h2 4 v4).set h1 h2 5 v5
  · exact grown_set (grown_set (grown_set (grown_set (grown_set (grown_set (hw.trans hG) h0 v0) h0 v1) h0 v2) h0 v3) h0 v4) h0 v5
set_option maxRecDepth 100000 in
set_option maxHeartbeats 4000000 in
theorem problem_s (b g C : Nat) (T : List Tok) (w : World) (hr : RS b g C T ⟨0, 0⟩ w) :
    Calls Tryz.prog 20 #[.pointer (some ⟨b, 0, none⟩)] w (PPost b g C T w) := by
  have HW := Lib.hid (word3_s b g C T ⟨0, 0⟩ (w.alloc zero6) (hr.alloc zero6))
  have hrb := hr.ltb.1
  have Q0 : Hid (∀ w1, ((w.alloc zero6).alloc three).grownBy w1 (some b) → w1.heap[w.heap.size]? = some zero6 ∧ w.grownBy w1 (some b) ∧ w.heap.size ≠ b) := fun w1 h1 => by
    have a1 := (World.grownBy_alloc w zero6 (some b)).trans ((World.grownBy_alloc (w.alloc zero6) three (some b)).trans h1)
    refine ⟨(h1.block _ (by simp; omega) (fun e => by injection e with e; omega)).trans ((Below.heap_alloc (w.alloc zero6) three _ (by simp)).trans (heap_alloc_new w zero6)), a1, by omega⟩
  have HI := Lib.hid (show PS T = if idx3 (tk T 0).text = 1 then aSt T (s1 T) else if idx3 (tk T 0).text = 2 then tSt T (s1 T) else kSt T (s1 T) from rfl)
  unfold PPost
  rw [HI.out]
  have HW2 : Hid (Calls Tryz.prog 40 #[.pointer (some ⟨b, 0, none⟩), .slice (some ⟨(w.alloc zero6).heap.size, 0, none⟩) 3 3] ((w.alloc zero6).alloc three) fun r w' => r = .returned (.int .i64 (idx3 (tk T 0).text)) ∧ RS b g C T (s1 T) w' ∧ ((w.alloc zero6).alloc three).grownBy w' (some b)) := HW
  rw [show (w.alloc zero6).heap.size = w.heap.size + 1 from by simp] at HW2
  clear HW HI hr hrb
  generalize idx3 (tk T 0).text = i at *
  unfold three at HW2 Q0
  unfold zero6 at HW2 Q0
  by_cases h1 : i = 1
  · subst h1
    simp only [if_true]
    obtain ⟨n, hn⟩ : ∃ n, n = nOf T (s1 T) 24 := ⟨_, rfl⟩
    rw [← hn]
    have HNN := Lib.hid hn
    clear hn
    go_enter Tryz.func20, Tryz.ntmps20
    go_wp2_with fail
    refine (name1 _).mono ?_
    rintro e w2 ⟨rfl, rfl⟩
    go_wp2_with fail
    refine (name2 _).mono ?_
    rintro e w2 ⟨rfl, rfl⟩
    go_wp2_with fail
    refine (name3 _).mono ?_
    rintro e w2 ⟨rfl, rfl⟩
    go_wp2_with fail
    refine HW2.out.mono ?_
    rintro e w2 ⟨rfl, hR, hG⟩
    have Q1 := Lib.hid (Q0.out w2 hG)
    have HC := Lib.hid (assign_s b g C T (s1 T) w2 hR)
    rw [← HNN.out] at HC
    clear HW2 Q0 hR hG
    go_wp2_with fail
    refine HC.out.mono ?_
    intro e w3 hT
    obtain ⟨q0, hw, hqb⟩ := Q1.out
    obtain ⟨gc, rfl, hq, hO⟩ := t_out hT hw q0 (Nat.le_refl _) hqb
    have HO := Lib.hid hO
    obtain ⟨z0, z1, z2, z3, z4, z5⟩ := ip.box6 hq
    have zf := ip.fr6 hq
    have f0 := zf 0; have f1 := zf 1; have f2 := zf 2; have f3 := zf 3; have f4 := zf 4; have f5 := zf 5
    have R6 := Lib.hid (ip.box6 (ip.six hq (.int .i64 2) (.int .i64 n) (.int .i64 0) (.slice none 0 0) (.slice none 0 0) (.slice (some ⟨gc, 0, none⟩) n n)))
    clear HC hT Q1 hO zf hq q0 hw hqb
    go_wp2
    obtain ⟨r0, r1, r2, r3, r4, r5⟩ := R6.out
    exact bodyPost_ret (v := .agg #[.int .i64 2, .int .i64 n, .int .i64 0, .slice none 0 0, .slice none 0 0, .slice (some ⟨gc, 0, none⟩) n n]) (by simp [results, Tryz.results20, go_sem, r0, r1, r2, r3, r4, r5]) rfl (HO.out _ _ _ _ _ _)
  · by_cases h2 : i = 2
    · subst h2
      simp only [show ¬ ((2 : Int) = 1) by decide, if_true, if_false]
      clear h1
      obtain ⟨n, hn⟩ : ∃ n, n = nOf T (s1 T) 24 := ⟨_, rfl⟩
      rw [← hn]
      have HNN := Lib.hid hn
      clear hn
      go_enter Tryz.func20, Tryz.ntmps20
      go_wp2_with fail
      refine (name1 _).mono ?_
      rintro e w2 ⟨rfl, rfl⟩
      go_wp2_with fail
      refine (name2 _).mono ?_
      rintro e w2 ⟨rfl, rfl⟩
      go_wp2_with fail
      refine (name3 _).mono ?_
      rintro e w2 ⟨rfl, rfl⟩
      go_wp2_with fail
      refine HW2.out.mono ?_
      rintro e w2 ⟨rfl, hR, hG⟩
      have Q1 := Lib.hid (Q0.out w2 hG)
      have HC := Lib.hid (tour_s b g C T (s1 T) w2 hR)
      rw [← HNN.out] at HC
      clear HW2 Q0 hR hG
      go_wp2_with fail
      refine HC.out.mono ?_
      intro e w3 hT
      obtain ⟨q0, hw, hqb⟩ := Q1.out
      obtain ⟨gc, rfl, hq, hO⟩ := t_out hT hw q0 (Nat.le_refl _) hqb
      have HO := Lib.hid hO
      obtain ⟨z0, z1, z2, z3, z4, z5⟩ := ip.box6 hq
      have zf := ip.fr6 hq
      have f0 := zf 0; have f1 := zf 1; have f2 := zf 2; have f3 := zf 3; have f4 := zf 4; have f5 := zf 5
      have R6 := Lib.hid (ip.box6 (ip.six hq (.int .i64 3) (.int .i64 n) (.int .i64 0) (.slice none 0 0) (.slice none 0 0) (.slice (some ⟨gc, 0, none⟩) n n)))
      clear HC hT Q1 hO zf hq q0 hw hqb
      go_wp2
      obtain ⟨r0, r1, r2, r3, r4, r5⟩ := R6.out
      exact bodyPost_ret (v := .agg #[.int .i64 3, .int .i64 n, .int .i64 0, .slice none 0 0, .slice none 0 0, .slice (some ⟨gc, 0, none⟩) n n]) (by simp [results, Tryz.results20, go_sem, r0, r1, r2, r3, r4, r5]) rfl (HO.out _ _ _ _ _ _)
    · simp only [h1, h2, if_false]
      have d1 : (i == 1) = false := by simpa using h1
      have d2 : (i == 2) = false := by simpa using h2
      clear h1 h2
      obtain ⟨n, hn⟩ : ∃ n, n = nOf T (s1 T) 64 := ⟨_, rfl⟩
      rw [← hn]
      have HNN := Lib.hid hn
      clear hn
      go_enter Tryz.func20, Tryz.ntmps20
      go_wp2_with fail
      refine (name1 _).mono ?_
      rintro e w2 ⟨rfl, rfl⟩
      go_wp2_with fail
      refine (name2 _).mono ?_
      rintro e w2 ⟨rfl, rfl⟩
      go_wp2_with fail
      refine (name3 _).mono ?_
      rintro e w2 ⟨rfl, rfl⟩
      go_wp2_with fail
      refine HW2.out.mono ?_
      rintro e w2 ⟨rfl, hR, hG⟩
      have Q1 := Lib.hid (Q0.out w2 hG)
      have HC := Lib.hid (ksack_s b g C T (s1 T) w2 hR)
      rw [← HNN.out] at HC
      clear HW2 Q0 hR hG
      go_wp2_with fail
      refine HC.out.mono ?_
      intro e w3 hT
      obtain ⟨q0, hw, hqb⟩ := Q1.out
      obtain ⟨aw, av, cw, cv, rfl, hq, hO⟩ := k_out2 hT hw q0 (Nat.le_refl _) hqb
      have HO := Lib.hid hO
      obtain ⟨z0, z1, z2, z3, z4, z5⟩ := ip.box6 hq
      have zf := ip.fr6 hq
      have f0 := zf 0; have f1 := zf 1; have f2 := zf 2; have f3 := zf 3; have f4 := zf 4; have f5 := zf 5
      have R6 := Lib.hid (ip.box6 (ip.six hq (.int .i64 1) (.int .i64 n) (.int .i64 (vn eK T (sz T (s1 T) 64) 0)) (.slice aw n cw) (.slice av n cv) (.slice none 0 0)))
      clear HC hT Q1 hO zf hq q0 hw hqb
      go_wp2
      obtain ⟨r0, r1, r2, r3, r4, r5⟩ := R6.out
      exact bodyPost_ret (v := .agg #[.int .i64 1, .int .i64 n, .int .i64 (vn eK T (sz T (s1 T) 64) 0), .slice aw n cw, .slice av n cv, .slice none 0 0]) (by simp [results, Tryz.results20, go_sem, r0, r1, r2, r3, r4, r5]) rfl (HO.out _ _ _ _ _ _)
end Go.Proofs.YtegieoajjfodcaaGreatDoor

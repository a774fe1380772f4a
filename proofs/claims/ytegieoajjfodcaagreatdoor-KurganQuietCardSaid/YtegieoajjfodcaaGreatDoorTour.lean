/-
  tour.
-/
import Derived.Test.YtegieoajjfodcaaGreatDoorUpp
namespace Go.Proofs.YtegieoajjfodcaaGreatDoor
open Go.RowKit
set_option linter.unusedVariables false
theorem ix2 (x : ByteArray) : ixF [wFull, wUpper] x 0 = idx2 x := by
  rw [ixF_cons, ixF_cons, ixF_nil]
  unfold idx2
  rfl
theorem ix3 (x : ByteArray) : ixF [nm1, nm2, nm3] x 0 = idx3 x := by
  rw [ixF_cons, ixF_cons, ixF_cons, ixF_nil]
  unfold idx3
  rfl
/-- the two words in a block -/
def two : Obj := .cells #[.string ⟨#[70, 85, 76, 76]⟩, .string ⟨#[85, 80, 80, 69, 82]⟩] 9 (0, 0)
theorem word2_s (b g C : Nat) (T : List Tok) (s : St) (w : World) (h : RS b g C T s w) :
    Calls Tryz.prog 40 #[.pointer (some ⟨b, 0, none⟩), .slice (some ⟨w.heap.size, 0, none⟩) 2 2] (w.alloc two) fun r w' => r = .returned (.int .i64 (idx2 (tk T s.p).text)) ∧ RS b g C T (s3 T s) w' ∧ (w.alloc two).grownBy w' (some b) := by
  have hc : ∀ j, j < [wFull, wUpper].length → (w.alloc two).cell? ⟨w.heap.size, j, none⟩ = some (.string ([wFull, wUpper][j]?.getD noText)) := fun j hj => by
    rw [cell_of_row _ _ _ _ _ _ (show (w.alloc two).heap[w.heap.size]? = some two from heap_alloc_new w two)]
    match j, hj with
    | 0, _ => rfl
    | 1, _ => rfl
  have H := word_core b g C T s (tk T s.p) rfl [wFull, wUpper] w.heap.size 2 (w.alloc two) (h.alloc two) (by decide) hc (idx2 (tk T s.p).text) (ix2 _).symm
  exact H
/-- what the two ways leave -/
def FT (T : List Tok) (s : St) (n : Nat) (i : Int) : Nat → Nat → Int := if i = 0 then FF T s n else MM T s n
def tEnd (T : List Tok) (s : St) (n : Nat) (i : Int) : St := if i = 0 then steps (fE n) T s (n * n) else steps eK T s (rs n n)
set_option maxRecDepth 100000 in
set_option maxHeartbeats 4000000 in
theorem tour_s (b g C : Nat) (T : List Tok) (s : St) (w : World) (hr : RS b g C T s w) :
    Calls Tryz.prog 43 #[.pointer (some ⟨b, 0, none⟩)] w (TPost 3 b g C T (tSt T s) (nOf T s 24) (FT T (s3 T (sz T s 24)) (nOf T s 24) (idx2 (tk T (sz T s 24).p).text)) w) := by
  have HZ := Lib.hid (size_s b g C T s 24 (w.alloc zero6) (hr.alloc zero6))
  rw [nOf_int hr.form] at HZ
  have hq0 : (w.alloc zero6).heap[w.heap.size]? = some zero6 := heap_alloc_new w zero6
  have hg0 : w.grownBy (w.alloc zero6) (some b) := World.grownBy_alloc w _ _
  have hrb := hr.ltb.1
  have hn := nOf_le T s 24
  have hs0 : (w.alloc zero6).heap.size = w.heap.size + 1 := by simp
  obtain ⟨S, hS⟩ : ∃ S, S = sz T s 24 := ⟨_, rfl⟩
  obtain ⟨i, hi⟩ : ∃ i, i = idx2 (tk T S.p).text := ⟨_, rfl⟩
  have hE : tSt T s = tEnd T (s3 T S) (nOf T s 24) i := by unfold tSt tEnd; rw [hi, hS]
  rw [hE, ← hS, ← hi]
  have HZ2 : Hid (Calls Tryz.prog 78 #[.pointer (some ⟨b, 0, none⟩), .int .i64 24] (w.alloc zero6) fun r w' => r = .returned (.int .i64 (nOf T s 24)) ∧ RS b g C T S w' ∧ (w.alloc zero6).grownBy w' (some b)) := by rw [hS]; exact HZ
  have HI := Lib.hid hi
  clear HZ hS hr hE hi
  generalize nOf T s 24 = n at *
  have Q0 : Hid ((w.alloc zero6).heap[w.heap.size]? = some zero6 ∧ w.grownBy (w.alloc zero6) (some b) ∧ b < w.heap.size ∧ (w.alloc zero6).heap.size = w.heap.size + 1) := ⟨hq0, hg0, hrb, hs0⟩
  clear hq0 hg0 hrb hs0
  unfold zero6 at HZ2 Q0
  unfold FT tEnd
  by_cases hi0 : i = 0
  all_goals
    simp only [hi0, if_true, if_false]
    have HW0 := Lib.hid hi0
    go_enter Tryz.func43, Tryz.ntmps43
    go_wp2_with fail
    refine HZ2.out.mono ?_
    rintro r w1 ⟨rfl, hR1, hG1⟩
    have HS := Lib.hid (square_any n hn w1)
    have Q1 : Hid (w1.heap[w.heap.size]? = some (.cells #[.int .i64 0, .int .i64 0, .int .i64 0, .slice none 0 0, .slice none 0 0, .slice none 0 0] 30 (0, 0)) ∧ w.grownBy w1 (some b) ∧ w.heap.size < w1.heap.size ∧ w.heap.size ≠ b) := by
      obtain ⟨a1, a2, a3, a4⟩ := Q0.out
      exact ⟨(hG1.block _ (by omega) (fun e => by injection e with e; omega)).trans a1, a2.trans hG1, by have := hG1.size; omega, by omega⟩
    have R1 := Lib.hid hR1
    clear HZ2 Q0 hR1 hG1
    go_wp2_with fail
    refine HS.out.mono ?_
    rintro r w2 ⟨gc, gs, rfl, hT2, hB2⟩
    obtain ⟨BB, hBB⟩ : ∃ BB, BB = w1.heap.size := ⟨_, rfl⟩
    have R2 : Hid (RS b g C T S w2 ∧ TBL BB gc n gs (fun _ _ => 0) w2 ∧ BB ≤ w2.heap.size) := by
      rw [hBB]
      exact ⟨R1.out.up hB2, hT2, hB2.size⟩
    have Q2 : Hid (w2.heap[w.heap.size]? = some (.cells #[.int .i64 0, .int .i64 0, .int .i64 0, .slice none 0 0, .slice none 0 0, .slice none 0 0] 30 (0, 0)) ∧ w.grownBy w2 (some b) ∧ w.heap.size < BB ∧ w.heap.size ≠ b) := by
      obtain ⟨a1, a2, a3, a4⟩ := Q1.out
      rw [hBB]
      exact ⟨(hB2.block _ a3).trans a1, grown_below a2 hB2, a3, a4⟩
    clear HS Q1 R1 hT2 hB2 hBB
    have HW := Lib.hid (word2_s b g C T S w2 R2.out.1)
    rw [← HI.out] at HW
    unfold two at HW
    have HG : Hid (∀ w3, (w2.alloc two).grownBy w3 (some b) → w2.grownBy w3 (some b)) := fun w3 h => (World.grownBy_alloc w2 _ _).trans h
    unfold two at HG
    go_wp2_with fail
    refine HW.out.mono ?_
    rintro r w3 ⟨rfl, hR3, hG3⟩
    have hG := HG.out w3 hG3
    have R3 : Hid (RS b g C T (s3 T S) w3 ∧ TBL BB gc n gs (fun _ _ => 0) w3 ∧ BB ≤ w3.heap.size) := by
      obtain ⟨a1, a2, a3⟩ := R2.out
      exact ⟨hR3, a2.kept hG (by have := a1.box; unfold RD at this; exact this), Nat.le_trans a3 hG.size⟩
    have Q3 : Hid (w3.heap[w.heap.size]? = some (.cells #[.int .i64 0, .int .i64 0, .int .i64 0, .slice none 0 0, .slice none 0 0, .slice none 0 0] 30 (0, 0)) ∧ w.grownBy w3 (some b) ∧ w.heap.size < BB ∧ w.heap.size ≠ b) := by
      obtain ⟨a1, a2, a3, a4⟩ := Q2.out
      obtain ⟨c1, c2, c3⟩ := R2.out
      exact ⟨(hG.block _ (by omega) (fun e => by injection e with e; exact a4 e)).trans a1, a2.trans hG, a3, a4⟩
    clear HW HG hR3 hG3 hG R2 Q2 HI
    skip
  · have d0 : (i == 0) = true := by simpa using hi0
    have HF := Lib.hid (full_s b g C T (s3 T S) n hn BB gc gs w3 R3.out.1 R3.out.2.1 R3.out.2.2)
    clear R3 hi0 HW0
    go_wp2_with fail
    refine HF.out.mono ?_
    rintro r w4 ⟨rfl, hF4⟩
    have FN := Lib.hid hF4
    clear hF4 HF
    obtain ⟨q0, hw2, hqB, hqb⟩ := Q3.out
    have hq := (FN.out.up.block _ hqB hqb).trans q0
    have HO := Lib.hid (out_set FN.out hq hqB (Nat.le_refl _) hw2 (.int .i64 3) (.int .i64 n) (.int .i64 0) (.slice none 0 0) (.slice none 0 0) (.slice (some ⟨gc, 0, none⟩) n n))
    obtain ⟨z0, z1, z2, z3, z4, z5⟩ := ip.box6 hq
    have zf := ip.fr6 hq
    have f0 := zf 0; have f1 := zf 1; have f2 := zf 2; have f3 := zf 3; have f4 := zf 4; have f5 := zf 5
    have hq6 := ip.six hq (.int .i64 3) (.int .i64 n) (.int .i64 0) (.slice none 0 0) (.slice none 0 0) (.slice (some ⟨gc, 0, none⟩) n n)
    have R6 := Lib.hid (ip.box6 hq6)
    clear FN Q3 q0 hw2 hqB hqb hq zf hq6
    go_wp2
    obtain ⟨r0, r1, r2, r3, r4, r5⟩ := R6.out
    exact bodyPost_ret (v := .agg #[.int .i64 3, .int .i64 n, .int .i64 0, .slice none 0 0, .slice none 0 0, .slice (some ⟨gc, 0, none⟩) n n]) (by simp [results, Tryz.results43, go_sem, r0, r1, r2, r3, r4, r5]) rfl ⟨gc, gs, rfl, HO.out⟩
  · have d0 : (i == 0) = false := by simpa using hi0
    have HF := Lib.hid (upper_s b g C T (s3 T S) n hn BB gc gs w3 R3.out.1 R3.out.2.1 R3.out.2.2)
    clear R3 hi0 HW0
    go_wp2_with fail
    refine HF.out.mono ?_
    rintro r w4 ⟨rfl, hF4⟩
    have FN := Lib.hid hF4
    clear hF4 HF
    obtain ⟨q0, hw2, hqB, hqb⟩ := Q3.out
    have hq := (FN.out.up.block _ hqB hqb).trans q0
    have HO := Lib.hid (out_set FN.out hq hqB (Nat.le_refl _) hw2 (.int .i64 3) (.int .i64 n) (.int .i64 0) (.slice none 0 0) (.slice none 0 0) (.slice (some ⟨gc, 0, none⟩) n n))
    obtain ⟨z0, z1, z2, z3, z4, z5⟩ := ip.box6 hq
    have zf := ip.fr6 hq
    have f0 := zf 0; have f1 := zf 1; have f2 := zf 2; have f3 := zf 3; have f4 := zf 4; have f5 := zf 5
    have hq6 := ip.six hq (.int .i64 3) (.int .i64 n) (.int .i64 0) (.slice none 0 0) (.slice none 0 0) (.slice (some ⟨gc, 0, none⟩) n n)
    have R6 := Lib.hid (ip.box6 hq6)
    clear FN Q3 q0 hw2 hqB hqb hq zf hq6
    go_wp2
    obtain ⟨r0, r1, r2, r3, r4, r5⟩ := R6.out
    exact bodyPost_ret (v := .agg #[.int .i64 3, .int .i64 n, .int .i64 0, .slice none 0 0, .slice none 0 0, .slice (some ⟨gc, 0, none⟩) n n]) (by simp [results, Tryz.results43, go_sem, r0, r1, r2, r3, r4, r5]) rfl ⟨gc, gs, rfl, HO.out⟩
end Go.Proofs.YtegieoajjfodcaaGreatDoor

import Derived.Test.YtjlaankgfpjeeaaDoorKsw
import Derived.Test.YtjlaankgfpjeeaaDoorScan
import Derived.Test.YtjlaankgfpjeeaaDoorInOne

/-
  problem.
-/
namespace Go.Proofs.YtjlaankgfpjeeaaDoor
open Go.RowKit
set_option linter.unusedVariables false
theorem name1 (w : World) : Calls Tryd.prog 22 #[.int .i64 1] w fun e w' => e = .returned (.string ⟨#[75, 78, 65, 80, 83, 65, 67, 75]⟩) ∧ w = w' := ip.name_any 1 w
theorem name2 (w : World) : Calls Tryd.prog 22 #[.int .i64 2] w fun e w' => e = .returned (.string ⟨#[65, 83, 83, 73, 71, 78, 77, 69, 78, 84]⟩) ∧ w = w' := ip.name_any 2 w
theorem name3 (w : World) : Calls Tryd.prog 22 #[.int .i64 3] w fun e w' => e = .returned (.string ⟨#[84, 83, 80]⟩) ∧ w = w' := ip.name_any 3 w
/-- the three words in a block -/
def three : Obj := .cells #[.string ⟨#[75, 78, 65, 80, 83, 65, 67, 75]⟩, .string ⟨#[65, 83, 83, 73, 71, 78, 77, 69, 78, 84]⟩, .string ⟨#[84, 83, 80]⟩] 9 (0, 0)
theorem word3_s (b g C : Nat) (T : List Tok) (s : St) (w : World) (h : RS b g C T s w) :
    Calls Tryd.prog 45 #[.pointer (some ⟨b, 0, none⟩), .slice (some ⟨w.heap.size, 0, none⟩) 3 3] (w.alloc three) fun r w' => r = .returned (.int .i64 (idx3 (tk T s.p).text)) ∧ RS b g C T (adv s (wf (tk T s.p) (idx3 (tk T s.p).text))) w' ∧ (w.alloc three).grownBy w' (some b) := by
  have hc : ∀ j, j < [nm1, nm2, nm3].length → (w.alloc three).cell? ⟨w.heap.size, j, none⟩ = some (.string ([nm1, nm2, nm3][j]?.getD noText)) := fun j hj => by
    rw [cell_of_row _ _ _ _ _ _ (show (w.alloc three).heap[w.heap.size]? = some three from heap_alloc_new w three)]
    match j, hj with
    | 0, _ => rfl
    | 1, _ => rfl
    | 2, _ => rfl
  have H := word_core b g C T s (tk T s.p) rfl [nm1, nm2, nm3] w.heap.size 3 (w.alloc three) (h.alloc three) (by decide) hc (idx3 (tk T s.p).text) (ix3 _).symm
  exact H
/-- what problem answers -/
def PPost (b g C : Nat) (T : List Tok) (w : World) (r : Ending) (w' : World) : Prop :=
  if idx3 (tk T 0).text = 1 then TPost 2 b g C T (PS T) (nOf T (s1 T) 24) (FA T (sz T (s1 T) 24) (nOf T (s1 T) 24)) w r w'
  else if idx3 (tk T 0).text = 2 then TPost 3 b g C T (PS T) (nOf T (s1 T) 24) (FT T (s3 T (sz T (s1 T) 24)) (nOf T (s1 T) 24) (idx2 (tk T (sz T (s1 T) 24).p).text)) w r w'
  else KPost b g C T (sz T (s1 T) 64) (PS T) (nOf T (s1 T) 64) w r w'
/-- the answer is moved into the box q -/
theorem t_out {K : Int} {b g C : Nat} {T : List Tok} {s : St} {n : Nat} {M : Nat → Nat → Int} {w w1 w2 : World} {r : Ending} {cs : Array Value} {q : Nat} (h : TPost K b g C T s n M w1 r w2) (hw : w.grownBy w1 (some b)) (hq : w1.heap[q]? = some (.cells cs 25 (0, 0))) (h0 : w.heap.size ≤ q) (hqb : q ≠ b) :
    ∃ (gc : Nat), r = .returned (.agg #[.int .i64 K, .int .i64 n, .int .i64 0, .slice none 0 0, .slice none 0 0, .slice (some ⟨gc, 0, none⟩) n n]) ∧ w2.heap[q]? = some (.cells cs 25 (0, 0)) ∧
    ∀ v0 v1 v2 v3 v4 v5 : Value, TPost K b g C T s n M w r ((((((w2.setCell ⟨q, 0, none⟩ v0).setCell ⟨q, 1, none⟩ v1).setCell ⟨q, 2, none⟩ v2).setCell ⟨q, 3, none⟩ v3).setCell ⟨q, 4, none⟩ v4).setCell ⟨q, 5, none⟩ v5) := by
  obtain ⟨gc, gs, rfl, hR, hT, hG⟩ := h
  have hql := lt_blk hq
  have hq2 := (hG.block q hql (fun e => hqb (by injection e))).trans hq
  refine ⟨gc, rfl, hq2, fun v0 v1 v2 v3 v4 v5 => ⟨gc, gs, rfl, ?_, ?_, ?_⟩⟩
  · obtain ⟨h1, h2⟩ := hR.far hq2 (by decide) (by decide)
    exact (((((hR.set h1 h2 0 v0).set h1 h2 1 v1).set h1 h2 2 v2).set h1 h2 3 v3).set h1 h2 4 v4).set h1 h2 5 v5
  · exact ((((((hT.set hql 0 v0).set hql 1 v1).set hql 2 v2).set hql 3 v3).set hql 4 v4).set hql 5 v5).le hw.size
  · exact grown_set (grown_set (grown_set (grown_set (grown_set (grown_set (hw.trans hG) h0 v0) h0 v1) h0 v2) h0 v3) h0 v4) h0 v5
theorem k_out2 {b g C : Nat} {T : List Tok} {S s : St} {n : Nat} {w w1 w2 : World} {r : Ending} {cs : Array Value} {q : Nat} (h : KPost b g C T S s n w1 r w2) (hw : w.grownBy w1 (some b)) (hq : w1.heap[q]? = some (.cells cs 25 (0, 0))) (h0 : w.heap.size ≤ q) (hqb : q ≠ b) :
    ∃ (aw av : Option Addr) (cw cv : Nat), r = .returned (.agg #[.int .i64 1, .int .i64 n, .int .i64 (vn eK T S 0), .slice aw n cw, .slice av n cv, .slice none 0 0]) ∧ w2.heap[q]? = some (.cells cs 25 (0, 0)) ∧
    ∀ v0 v1 v2 v3 v4 v5 : Value, KPost b g C T S s n w r ((((((w2.setCell ⟨q, 0, none⟩ v0).setCell ⟨q, 1, none⟩ v1).setCell ⟨q, 2, none⟩ v2).setCell ⟨q, 3, none⟩ v3).setCell ⟨q, 4, none⟩ v4).setCell ⟨q, 5, none⟩ v5) := by
  obtain ⟨aw, av, cw, cv, rfl, hW, hV, hR, hG⟩ := h
  have hql := lt_blk hq
  have hq2 := (hG.block q hql (fun e => hqb (by injection e))).trans hq
  have hz := hw.size
  refine ⟨aw, av, cw, cv, rfl, hq2, fun v0 v1 v2 v3 v4 v5 => ⟨aw, av, cw, cv, rfl, ?_, ?_, ?_, ?_⟩⟩
  · exact Go.Joins.ownsRow_le (ownsRow_setCell_below (a := ⟨q, 5, none⟩) (ownsRow_setCell_below (a := ⟨q, 4, none⟩) (ownsRow_setCell_below (a := ⟨q, 3, none⟩) (ownsRow_setCell_below (a := ⟨q, 2, none⟩) (ownsRow_setCell_below (a := ⟨q, 1, none⟩) (ownsRow_setCell_below (a := ⟨q, 0, none⟩) hW hql v0) hql v1) hql v2) hql v3) hql v4) hql v5) hz
  · exact Go.Joins.ownsRow_le (ownsRow_setCell_below (a := ⟨q, 5, none⟩) (ownsRow_setCell_below (a := ⟨q, 4, none⟩) (ownsRow_setCell_below (a := ⟨q, 3, none⟩) (ownsRow_setCell_below (a := ⟨q, 2, none⟩) (ownsRow_setCell_below (a := ⟨q, 1, none⟩) (ownsRow_setCell_below (a := ⟨q, 0, none⟩) hV hql v0) hql v1) hql v2) hql v3) hql v4) hql v5) hz
  · obtain ⟨h1, h2⟩ := hR.far hq2 (by decide) (by decide)
    exact (((((hR.set h1 h2 0 v0).set h1 h2 1 v1).set h1 h2 2 v2).set h1 h2 3 v3).set h1 h2 4 v4).set h1 h2 5 v5
  · exact grown_set (grown_set (grown_set (grown_set (grown_set (grown_set (hw.trans hG) h0 v0) h0 v1) h0 v2) h0 v3) h0 v4) h0 v5
set_option maxRecDepth 100000 in
set_option maxHeartbeats 4000000 in
theorem problem_s (b g C : Nat) (T : List Tok) (w : World) (hr : RS b g C T ⟨0, 0⟩ w) :
    Calls Tryd.prog 26 #[.pointer (some ⟨b, 0, none⟩)] w (PPost b g C T w) := by
  have HW := Lib.hid (word3_s b g C T ⟨0, 0⟩ (w.alloc zero6) (hr.alloc zero6))
  have hrb := hr.ltb.1
  have Q0 : Hid (∀ w1, ((w.alloc zero6).alloc three).grownBy w1 (some b) → w1.heap[w.heap.size]? = some zero6 ∧ w.grownBy w1 (some b) ∧ w.heap.size ≠ b) := fun w1 h1 => by
    have a1 := (World.grownBy_alloc w zero6 (some b)).trans ((World.grownBy_alloc (w.alloc zero6) three (some b)).trans h1)
    refine ⟨(h1.block _ (by simp; omega) (fun e => by injection e with e; omega)).trans ((Below.heap_alloc (w.alloc zero6) three _ (by simp)).trans (heap_alloc_new w zero6)), a1, by omega⟩
  have HI := Lib.hid (show PS T = if idx3 (tk T 0).text = 1 then aSt T (s1 T) else if idx3 (tk T 0).text = 2 then tSt T (s1 T) else kSt T (s1 T) from rfl)
  unfold PPost
  rw [HI.out]
  have HW2 : Hid (Calls Tryd.prog 45 #[.pointer (some ⟨b, 0, none⟩), .slice (some ⟨(w.alloc zero6).heap.size, 0, none⟩) 3 3] ((w.alloc zero6).alloc three) fun r w' => r = .returned (.int .i64 (idx3 (tk T 0).text)) ∧ RS b g C T (s1 T) w' ∧ ((w.alloc zero6).alloc three).grownBy w' (some b)) := HW
  rw [show (w.alloc zero6).heap.size = w.heap.size + 1 from by simp] at HW2
  clear HW HI hr hrb
  generalize idx3 (tk T 0).text = i at *
  unfold three at HW2 Q0
  unfold zero6 at HW2 Q0
  by_cases h1 : i = 1
  · subst h1
    simp only [if_true]
    obtain ⟨n, hn⟩ : ∃ n, n = nOf T (s1 T) 24 := ⟨_, rfl⟩
    rw [← hn]
    have HNN := Lib.hid hn
    clear hn
    go_enter Tryd.func26, Tryd.ntmps26
    go_wp2_with fail
    refine (name1 _).mono ?_
    rintro e w2 ⟨rfl, rfl⟩
    go_wp2_with fail
    refine (name2 _).mono ?_
    rintro e w2 ⟨rfl, rfl⟩
    go_wp2_with fail
    refine (name3 _).mono ?_
    rintro e w2 ⟨rfl, rfl⟩
    go_wp2_with fail
    refine HW2.out.mono ?_
    rintro e w2 ⟨rfl, hR, hG⟩
    have Q1 := Lib.hid (Q0.out w2 hG)
    have HC := Lib.hid (assign_s b g C T (s1 T) w2 hR)
    rw [← HNN.out] at HC
    clear HW2 Q0 hR hG
    go_wp2_with fail
    refine HC.out.mono ?_
    intro e w3 hT
    obtain ⟨q0, hw, hqb⟩ := Q1.out
    obtain ⟨gc, rfl, hq, hO⟩ := t_out hT hw q0 (Nat.le_refl _) hqb
    have HO := Lib.hid hO
    obtain ⟨z0, z1, z2, z3, z4, z5⟩ := ip.box6 hq
    have zf := ip.fr6 hq
    have f0 := zf 0; have f1 := zf 1; have f2 := zf 2; have f3 := zf 3; have f4 := zf 4; have f5 := zf 5
    have R6 := Lib.hid (ip.box6 (ip.six hq (.int .i64 2) (.int .i64 n) (.int .i64 0) (.slice none 0 0) (.slice none 0 0) (.slice (some ⟨gc, 0, none⟩) n n)))
    clear HC hT Q1 hO zf hq q0 hw hqb
    go_wp2
    obtain ⟨r0, r1, r2, r3, r4, r5⟩ := R6.out
    exact bodyPost_ret (v := .agg #[.int .i64 2, .int .i64 n, .int .i64 0, .slice none 0 0, .slice none 0 0, .slice (some ⟨gc, 0, none⟩) n n]) (by simp [results, Tryd.results26, go_sem, r0, r1, r2, r3, r4, r5]) rfl (HO.out _ _ _ _ _ _)
  · by_cases h2 : i = 2
    · subst h2
      simp only [show ¬ ((2 : Int) = 1) by decide, if_true, if_false]
      clear h1
      obtain ⟨n, hn⟩ : ∃ n, n = nOf T (s1 T) 24 := ⟨_, rfl⟩
      rw [← hn]
      have HNN := Lib.hid hn
      clear hn
      go_enter Tryd.func26, Tryd.ntmps26
      go_wp2_with fail
      refine (name1 _).mono ?_
      rintro e w2 ⟨rfl, rfl⟩
      go_wp2_with fail
      refine (name2 _).mono ?_
      rintro e w2 ⟨rfl, rfl⟩
      go_wp2_with fail
      refine (name3 _).mono ?_
      rintro e w2 ⟨rfl, rfl⟩
      go_wp2_with fail
      refine HW2.out.mono ?_
      rintro e w2 ⟨rfl, hR, hG⟩
      have Q1 := Lib.hid (Q0.out w2 hG)
      have HC := Lib.hid (tour_s b g C T (s1 T) w2 hR)
      rw [← HNN.out] at HC
      clear HW2 Q0 hR hG
      go_wp2_with fail
      refine HC.out.mono ?_
      intro e w3 hT
      obtain ⟨q0, hw, hqb⟩ := Q1.out
      obtain ⟨gc, rfl, hq, hO⟩ := t_out hT hw q0 (Nat.le_refl _) hqb
      have HO := Lib.hid hO
      obtain ⟨z0, z1, z2, z3, z4, z5⟩ := ip.box6 hq
      have zf := ip.fr6 hq
      have f0 := zf 0; have f1 := zf 1; have f2 := zf 2; have f3 := zf 3; have f4 := zf 4; have f5 := zf 5
      have R6 := Lib.hid (ip.box6 (ip.six hq (.int .i64 3) (.int .i64 n) (.int .i64 0) (.slice none 0 0) (.slice none 0 0) (.slice (some ⟨gc, 0, none⟩) n n)))
      clear HC hT Q1 hO zf hq q0 hw hqb
      go_wp2
      obtain ⟨r0, r1, r2, r3, r4, r5⟩ := R6.out
      exact bodyPost_ret (v := .agg #[.int .i64 3, .int .i64 n, .int .i64 0, .slice none 0 0, .slice none 0 0, .slice (some ⟨gc, 0, none⟩) n n]) (by simp [results, Tryd.results26, go_sem, r0, r1, r2, r3, r4, r5]) rfl (HO.out _ _ _ _ _ _)
    · simp only [h1, h2, if_false]
      have d1 : (i == 1) = false := by simpa using h1
      have d2 : (i == 2) = false := by simpa using h2
      clear h1 h2
      obtain ⟨n, hn⟩ : ∃ n, n = nOf T (s1 T) 64 := ⟨_, rfl⟩
      rw [← hn]
      have HNN := Lib.hid hn
      clear hn
      go_enter Tryd.func26, Tryd.ntmps26
      go_wp2_with fail
      refine (name1 _).mono ?_
      rintro e w2 ⟨rfl, rfl⟩
      go_wp2_with fail
      refine (name2 _).mono ?_
      rintro e w2 ⟨rfl, rfl⟩
      go_wp2_with fail
      refine (name3 _).mono ?_
      rintro e w2 ⟨rfl, rfl⟩
      go_wp2_with fail
      refine HW2.out.mono ?_
      rintro e w2 ⟨rfl, hR, hG⟩
      have Q1 := Lib.hid (Q0.out w2 hG)
      have HC := Lib.hid (ksack_s b g C T (s1 T) w2 hR)
      rw [← HNN.out] at HC
      clear HW2 Q0 hR hG
      go_wp2_with fail
      refine HC.out.mono ?_
      intro e w3 hT
      obtain ⟨q0, hw, hqb⟩ := Q1.out
      obtain ⟨aw, av, cw, cv, rfl, hq, hO⟩ := k_out2 hT hw q0 (Nat.le_refl _) hqb
      have HO := Lib.hid hO
      obtain ⟨z0, z1, z2, z3, z4, z5⟩ := ip.box6 hq
      have zf := ip.fr6 hq
      have f0 := zf 0; have f1 := zf 1; have f2 := zf 2; have f3 := zf 3; have f4 := zf 4; have f5 := zf 5
      have R6 := Lib.hid (ip.box6 (ip.six hq (.int .i64 1) (.int .i64 n) (.int .i64 (vn eK T (sz T (s1 T) 64) 0)) (.slice aw n cw) (.slice av n cv) (.slice none 0 0)))
      clear HC hT Q1 hO zf hq q0 hw hqb
      go_wp2
      obtain ⟨r0, r1, r2, r3, r4, r5⟩ := R6.out
      exact bodyPost_ret (v := .agg #[.int .i64 1, .int .i64 n, .int .i64 (vn eK T (sz T (s1 T) 64) 0), .slice aw n cw, .slice av n cv, .slice none 0 0]) (by simp [results, Tryd.results26, go_sem, r0, r1, r2, r3, r4, r5]) rfl (HO.out _ _ _ _ _ _)
end Go.Proofs.YtjlaankgfpjeeaaDoor

/-
  Parse.
-/
namespace Go.Proofs.YtjlaankgfpjeeaaDoor
open Go.RowKit
set_option linter.unusedVariables false
/-- a problem's value in memory, and its lists -/
structure IV (v : Value) (K : Int) (N : Nat) (C : Int) (wl vl : List Int) (cl : List (List Int)) (B : Nat) (w : World) : Prop where
  ex : ∃ (wa va ca : Option Addr) (wc vc cc : Nat), v = .agg #[.int .i64 K, .int .i64 N, .int .i64 C, .slice wa wl.length wc, .slice va vl.length vc, .slice ca cl.length cc] ∧
    w.ownsRow B 3 1 (.slice wa wl.length wc) wl.length (enc wl) ∧ w.ownsRow B 3 1 (.slice va vl.length vc) vl.length (enc vl) ∧
    ((cl = [] ∧ ca = none ∧ cc = 0) ∨ ∃ (gc : Nat) (gs : Nat → Nat) (M : Nat → Nat → Int), ca = some ⟨gc, 0, none⟩ ∧ cc = cl.length ∧ cl = tab cl.length M ∧ TBL B gc cl.length gs M w)
/-- what Parse answers -/
def PaP (w : World) (r : PRes) (e : Ending) (w' : World) : Prop := match r with
  | .ok K N C wl vl cl => ∃ v, e = .returned (.tuple #[v, .int .i64 0, .int .i64 0]) ∧ IV v K N C wl vl cl w.heap.size w' ∧ Below w.heap.size w w'
  | .bad p er => e = .returned (.tuple #[.agg #[.int .i64 0, .int .i64 0, .int .i64 0, .slice none 0 0, .slice none 0 0, .slice none 0 0], .int .i64 p, .int .i64 er]) ∧ Below w.heap.size w w'
/-- what a text tells -/
def PX (s : ByteArray) : PRes := match SP s 0 [] with
  | .ok T => PR T
  | .bad p e => .bad p e
theorem tab_len (n : Nat) (M : Nat → Nat → Int) : (tab n M).length = n := by simp [tab]
theorem tab_congr {n : Nat} {M M' : Nat → Nat → Int} (h : ∀ i j, i < n → j < n → M i j = M' i j) : tab n M = tab n M' := by
  unfold tab
  apply List.map_congr_left
  intro i hi
  apply List.map_congr_left
  intro j hj
  exact h i j (List.mem_range.1 hi) (List.mem_range.1 hj)
theorem fin_zero {T : List Tok} {s : St} (h : (fin T s).f = 0) : s.f = 0 := (fin_ok h).1
/-- where nothing is wrong, n is told -/
theorem n_ok {T : List Tok} (hT : Toks T) {s : St} {most : Int} (h : (sz T s most).f = 0) : s.f = 0 ∧ nOf T s most = (tk T s.p).num.toNat ∧ sz T s most = ⟨s.p + 1, 0⟩ := by
  unfold sz at h ⊢
  obtain ⟨h1, h2⟩ := adv_zero h
  refine ⟨h1, by unfold nOf; rw [if_pos ⟨h1, h2⟩], by rw [h2]; exact adv_ok h1⟩
theorem s1_ok {T : List Tok} (h : (s1 T).f = 0) : s1 T = ⟨1, 0⟩ := by
  unfold s1 at h ⊢
  obtain ⟨h1, h2⟩ := adv_zero h
  rw [h2]; exact adv_ok rfl
theorem s3_ok {T : List Tok} {s : St} (h : (s3 T s).f = 0) : s.f = 0 ∧ s3 T s = ⟨s.p + 1, 0⟩ := by
  unfold s3 at h ⊢
  obtain ⟨h1, h2⟩ := adv_zero h
  exact ⟨h1, by rw [h2]; exact adv_ok h1⟩
theorem rs_mono (n : Nat) : ∀ k a, rs n a ≤ rs n (a + k)
  | 0, a => Nat.le_refl _
  | k + 1, a => by
    have := rs_mono n k a
    show rs n a ≤ rs n (a + k) + (n - 1 - (a + k))
    omega
theorem rs_lt (n i j : Nat) (h : i < j) (hj : j < n) : rs n i + (j - i - 1) < rs n n := by
  have h1 := rs_mono n (n - (i + 1)) (i + 1)
  rw [show i + 1 + (n - (i + 1)) = n by omega] at h1
  have h2 : rs n (i + 1) = rs n i + (n - 1 - i) := rfl
  omega
theorem WL_eq {T : List Tok} {p n : Nat} (h : ∀ j, j < 1 + 2 * n → eE (tk T (p + j)) = 0) : WL T ⟨p, 0⟩ n = (List.range n).map fun j => (tk T (p + (1 + 2 * j))).num := by
  unfold WL
  apply List.map_congr_left
  intro j hj
  have hj := List.mem_range.1 hj
  rw [vn_ok eK T p _ (fun q hq => h q (by omega)), show 1 + (j + j) = 1 + 2 * j by omega]
theorem VL_eq {T : List Tok} {p n : Nat} (h : ∀ j, j < 1 + 2 * n → eE (tk T (p + j)) = 0) : VL T ⟨p, 0⟩ n = (List.range n).map fun j => (tk T (p + (2 + 2 * j))).num := by
  unfold VL
  apply List.map_congr_left
  intro j hj
  have hj := List.mem_range.1 hj
  rw [vn_ok eK T p _ (fun q hq => h q (by omega)), show 1 + (j + j + 1) = 2 + 2 * j by omega]
/-- what problem answered, where nothing was wrong, is what the tokens tell -/
theorem pr_ok {b g C : Nat} {T : List Tok} (hT : Toks T) {w w' : World} {r : Ending} (h : PPost b g C T w r w') (hf : (fin T (PS T)).f = 0) :
    ∃ v K N Cc wl vl cl, PR T = .ok K N Cc wl vl cl ∧ r = .returned v ∧ IV v K N Cc wl vl cl w.heap.size w' ∧ RS b g C T (PS T) w' ∧ w.grownBy w' (some b) := by
  have hp := fin_zero hf
  unfold PPost at h
  unfold PR
  rw [if_neg (by rw [hf]; simp)]
  by_cases h1 : idx3 (tk T 0).text = 1
  · rw [if_pos h1] at h ⊢
    obtain ⟨gc, gs, rfl, hR, hTb, hG⟩ := h
    have hS : PS T = aSt T (s1 T) := by unfold PS; rw [if_pos h1]
    rw [hS] at hp
    obtain ⟨a1, a2, a3⟩ := steps_zero eK T _ _ hp
    obtain ⟨b1, b2, b3⟩ := n_ok hT a1
    have c1 := s1_ok b1
    rw [c1] at b2 b3 hTb
    have b2' : nOf T ⟨1, 0⟩ 24 = (tk T 1).num.toNat := b2
    refine ⟨_, _, _, _, _, _, _, rfl, rfl, ⟨none, none, _, 0, 0, _, ?_, World.ownsRow_nil _ _ _ _, World.ownsRow_nil _ _ _ _, Or.inr ⟨gc, gs, MA T 2 (tk T 1).num.toNat, rfl, rfl, by rw [tab_len], ?_⟩⟩, hR, hG⟩
    · rw [c1, b2', tab_len]; rfl
    · rw [tab_len]
      rw [b2'] at hTb
      refine hTb.congr (fun i j hi hj => ?_)
      unfold FA MA
      rw [b3]
      rw [c1, b3, b2'] at a3
      have hk : i * (tk T 1).num.toNat + j < (tk T 1).num.toNat * (tk T 1).num.toNat := by
        have : (i + 1) * (tk T 1).num.toNat ≤ (tk T 1).num.toNat * (tk T 1).num.toNat := Nat.mul_le_mul_right _ hi
        rw [Nat.succ_mul] at this
        omega
      exact vn_ok eK T 2 _ (fun q hq => (a3 q (by omega)).1)
  · rw [if_neg h1] at h ⊢
    by_cases h2 : idx3 (tk T 0).text = 2
    · rw [if_pos h2] at h ⊢
      obtain ⟨gc, gs, rfl, hR, hTb, hG⟩ := h
      have hS : PS T = tSt T (s1 T) := by unfold PS; rw [if_neg h1, if_pos h2]
      rw [hS] at hp
      unfold tSt at hp
      by_cases h3 : idx2 (tk T (sz T (s1 T) 24).p).text = 0
      · rw [if_pos h3] at hp
        unfold FT at hTb
        rw [if_pos h3] at hTb
        obtain ⟨a1, a2, a3⟩ := steps_zero _ T _ _ hp
        obtain ⟨e1, e2⟩ := s3_ok a1
        obtain ⟨b1, b2, b3⟩ := n_ok hT e1
        have c1 := s1_ok b1
        rw [c1] at b2 b3 hTb e2 a3 h3
        have b2' : nOf T ⟨1, 0⟩ 24 = (tk T 1).num.toNat := b2
        rw [b3] at e2 hTb a3 h3
        rw [e2] at hTb a3
        rw [b2'] at hTb a3
        rw [if_pos h3]
        refine ⟨_, _, _, _, _, _, _, rfl, rfl, ⟨none, none, _, 0, 0, _, ?_, World.ownsRow_nil _ _ _ _, World.ownsRow_nil _ _ _ _, Or.inr ⟨gc, gs, MA T 3 (tk T 1).num.toNat, rfl, rfl, by rw [tab_len], ?_⟩⟩, hR, hG⟩
        · rw [c1, b2', tab_len]; rfl
        · rw [tab_len]
          refine hTb.congr (fun i j hi hj => ?_)
          have hk : i * (tk T 1).num.toNat + j < (tk T 1).num.toNat * (tk T 1).num.toNat := by
            have : (i + 1) * (tk T 1).num.toNat ≤ (tk T 1).num.toNat * (tk T 1).num.toNat := Nat.mul_le_mul_right _ hi
            rw [Nat.succ_mul] at this
            omega
          unfold FF MA
          by_cases e : i = j
          · subst e
            rw [if_pos rfl]
            have := (a3 _ hk).1
            rw [fE_diag _ _ hi] at this
            exact (zf_ok this).2.symm
          · rw [if_neg e]
            exact vn_ok _ T 3 _ (fun q hq => (a3 q (by omega)).1)
      · rw [if_neg h3] at hp
        unfold FT at hTb
        rw [if_neg h3] at hTb
        obtain ⟨a1, a2, a3⟩ := steps_zero _ T _ _ hp
        obtain ⟨e1, e2⟩ := s3_ok a1
        obtain ⟨b1, b2, b3⟩ := n_ok hT e1
        have c1 := s1_ok b1
        rw [c1] at b2 b3 hTb e2 a3 h3
        have b2' : nOf T ⟨1, 0⟩ 24 = (tk T 1).num.toNat := b2
        rw [b3] at e2 hTb a3 h3
        rw [e2] at hTb a3
        rw [b2'] at hTb a3
        rw [if_neg h3]
        refine ⟨_, _, _, _, _, _, _, rfl, rfl, ⟨none, none, _, 0, 0, _, ?_, World.ownsRow_nil _ _ _ _, World.ownsRow_nil _ _ _ _, Or.inr ⟨gc, gs, MU T (tk T 1).num.toNat, rfl, rfl, by rw [tab_len], ?_⟩⟩, hR, hG⟩
        · rw [c1, b2', tab_len]; rfl
        · rw [tab_len]
          refine hTb.congr (fun i j hi hj => ?_)
          unfold MM MU FU
          by_cases e : i = j
          · rw [if_pos e, if_pos e]
          · rw [if_neg e, if_neg e]
            by_cases q : i < j
            · rw [if_pos q, if_pos q]
              have hl := rs_lt _ i j q hj
              exact vn_ok _ T 3 _ (fun q hq => (a3 q (by omega)).1)
            · rw [if_neg q, if_neg q]
              have hl := rs_lt _ j i (by omega) hi
              exact vn_ok _ T 3 _ (fun q hq => (a3 q (by omega)).1)
    · rw [if_neg h2] at h ⊢
      obtain ⟨aw, av, cw, cv, rfl, hW, hV, hR, hG⟩ := h
      have hS : PS T = kSt T (s1 T) := by unfold PS; rw [if_neg h1, if_neg h2]
      rw [hS] at hp
      obtain ⟨a1, a2, a3⟩ := steps_zero eK T _ _ hp
      obtain ⟨b1, b2, b3⟩ := n_ok hT a1
      have c1 := s1_ok b1
      rw [c1] at b2 b3 hW hV a3
      have b2' : nOf T ⟨1, 0⟩ 64 = (tk T 1).num.toNat := b2
      rw [b3] at hW hV a3
      rw [b2'] at hW hV a3
      have hE : ∀ j, j < 1 + 2 * (tk T 1).num.toNat → eE (tk T (2 + j)) = 0 := fun j hj => (a3 j hj).1
      rw [WL_eq hE] at hW
      rw [VL_eq hE] at hV
      have lW : (kWl T (tk T 1).num.toNat).length = (tk T 1).num.toNat := by simp [kWl]
      have lV : (kVl T (tk T 1).num.toNat).length = (tk T 1).num.toNat := by simp [kVl]
      refine ⟨_, _, _, _, _, _, _, rfl, rfl, ⟨aw, av, none, cw, cv, 0, ?_, by rw [lW]; exact hW, by rw [lV]; exact hV, Or.inl ⟨rfl, rfl, rfl⟩⟩, hR, hG⟩
      rw [c1, b2', b3, lW, lV]
      rfl
end Go.Proofs.YtjlaankgfpjeeaaDoor

/-
  What Parse answers, of every text.
-/
namespace Go.Proofs.YtjlaankgfpjeeaaDoor
open Go.RowKit
set_option linter.unusedVariables false
theorem IV.kept {v : Value} {K : Int} {N : Nat} {C : Int} {wl vl : List Int} {cl : List (List Int)} {B x : Nat} {w w' : World} (h : IV v K N C wl vl cl B w) (hg : w.grownBy w' (some x)) {cs : Array Value} {t : TypeId} (hx : w.heap[x]? = some (.cells cs t (0, 0))) (h3 : t ≠ 3) (h23 : t ≠ 22) : IV v K N C wl vl cl B w' := by
  obtain ⟨wa, va, ca, wc, vc, cc, hv, hW, hV, hC⟩ := h.ex
  refine ⟨wa, va, ca, wc, vc, cc, hv, hW.kept hg (.inr (row_neE hW hx h3)), hV.kept hg (.inr (row_neE hV hx h3)), ?_⟩
  rcases hC with hC | ⟨gc, gs, M, e1, e2, e3, hT⟩
  · exact .inl hC
  · exact .inr ⟨gc, gs, M, e1, e2, e3, hT.top.kept hg (.inr (row_neE hT.top hx h23)), fun j hj => (hT.rows j hj).kept hg (.inr (row_neE (hT.rows j hj) hx h3)), hT.inj⟩
theorem IV.up {v : Value} {K : Int} {N : Nat} {C : Int} {wl vl : List Int} {cl : List (List Int)} {B : Nat} {w w' : World} (h : IV v K N C wl vl cl B w) (hb : Below w.heap.size w w') : IV v K N C wl vl cl B w' := by
  obtain ⟨wa, va, ca, wc, vc, cc, hv, hW, hV, hC⟩ := h.ex
  refine ⟨wa, va, ca, wc, vc, cc, hv, ownsRow_up hW hb, ownsRow_up hV hb, ?_⟩
  rcases hC with hC | ⟨gc, gs, M, e1, e2, e3, hT⟩
  · exact .inl hC
  · exact .inr ⟨gc, gs, M, e1, e2, e3, hT.up hb⟩
theorem IV.set {v : Value} {K : Int} {N : Nat} {C : Int} {wl vl : List Int} {cl : List (List Int)} {B q : Nat} {w : World} (h : IV v K N C wl vl cl B w) (hq : q < B) (j : Nat) (u : Value) : IV v K N C wl vl cl B (w.setCell ⟨q, j, none⟩ u) := by
  obtain ⟨wa, va, ca, wc, vc, cc, hv, hW, hV, hC⟩ := h.ex
  refine ⟨wa, va, ca, wc, vc, cc, hv, ownsRow_setCell_below (a := ⟨q, j, none⟩) hW hq u, ownsRow_setCell_below (a := ⟨q, j, none⟩) hV hq u, ?_⟩
  rcases hC with hC | ⟨gc, gs, M, e1, e2, e3, hT⟩
  · exact .inl hC
  · exact .inr ⟨gc, gs, M, e1, e2, e3, hT.set hq j u⟩
theorem IV.le {v : Value} {K : Int} {N : Nat} {C : Int} {wl vl : List Int} {cl : List (List Int)} {B B' : Nat} {w : World} (h : IV v K N C wl vl cl B w) (hB : B' ≤ B) : IV v K N C wl vl cl B' w := by
  obtain ⟨wa, va, ca, wc, vc, cc, hv, hW, hV, hC⟩ := h.ex
  refine ⟨wa, va, ca, wc, vc, cc, hv, Go.Joins.ownsRow_le hW hB, Go.Joins.ownsRow_le hV hB, ?_⟩
  rcases hC with hC | ⟨gc, gs, M, e1, e2, e3, hT⟩
  · exact .inl hC
  · exact .inr ⟨gc, gs, M, e1, e2, e3, hT.le hB⟩
/-- a text that is too long -/
theorem scan_long (s : ByteArray) (hs : 65536 < s.size) (w : World) : Calls Tryd.prog 18 #[.string s] w fun e w' => e = .returned (.tuple #[.slice none 0 0, .int .i64 0, .int .i64 5]) ∧ w = w' := by
  have g0 : (65536 : Int) < (s.size : Int) := by omega
  go_enter Tryd.func18, Tryd.ntmps18
  go_wp2
  exact bodyPost_ret (v := .tuple #[.slice none 0 0, .int .i64 0, .int .i64 5]) (by simp [results, Tryd.results18, go_sem]) rfl ⟨rfl, rfl⟩
theorem sp_bad (s : ByteArray) : ∀ b p l q e, sp s b p l = .bad q e → e ≠ 0
  | 0, p, l, q, e, h => by cases h
  | b + 1, p, l, q, e, h => by
    simp only [sp] at h
    split at h
    · cases h
    · split at h
      · exact sp_bad s b _ _ _ _ h
      · split at h
        · exact sp_bad s b _ _ _ _ h
        · split at h
          · split at h
            · rename_i hne
              injection h with _ h
              rw [← h]; exact hne
            · split at h
              · injection h with _ h; omega
              · exact sp_bad s b _ _ _ _ h
          · split at h
            · split at h
              · injection h with _ h; omega
              · split at h
                · injection h with _ h; omega
                · exact sp_bad s b _ _ _ _ h
            · injection h with _ h; omega
theorem SP_bad {s : ByteArray} {q : Nat} {e : Int} (h : SP s 0 [] = .bad q e) : e ≠ 0 := sp_bad s _ _ _ _ _ h
/-- what a text tells, however long it is -/
def PXX (s : ByteArray) : PRes := if 65536 < s.size then .bad 0 5 else PX s
theorem zero_ret (er p : Int) : True := trivial
set_option maxRecDepth 100000 in
set_option maxHeartbeats 4000000 in
/-- where the scan tells an error -/
theorem parse_err (s : ByteArray) (p er : Int) (he : er ≠ 0) (w : World) (HS : Hid (∀ W, Calls Tryd.prog 18 #[.string s] W fun e w' => e = .returned (.tuple #[.slice none 0 0, .int .i64 p, .int .i64 er]) ∧ Below W.heap.size W w')) :
    Calls Tryd.prog 11 #[.string s] w fun e w' => e = .returned (.tuple #[.agg #[.int .i64 0, .int .i64 0, .int .i64 0, .slice none 0 0, .slice none 0 0, .slice none 0 0], .int .i64 p, .int .i64 er]) ∧ Below w.heap.size w w' := by
  have d0 : (er != 0) = true := by simpa using he
  have B0 : Hid (Below w.heap.size w (w.alloc zero6)) := bl_al (Below.refl _ _) _
  have H0 : Hid ((w.alloc zero6).heap[w.heap.size]? = some zero6 ∧ w.heap.size < (w.alloc zero6).heap.size) := ⟨heap_alloc_new w zero6, by simp⟩
  unfold zero6 at B0 H0
  go_enter Tryd.func11, Tryd.ntmps11
  go_wp2_with fail
  refine (HS.out _).mono ?_
  rintro e w2 ⟨rfl, hB⟩
  have B2 := Lib.hid (bl_tr B0.out hB)
  have hq := (hB.block _ H0.out.2).trans H0.out.1
  obtain ⟨z0, z1, z2, z3, z4, z5⟩ := ip.box6 hq
  have zf := ip.fr6 hq
  have f0 := zf 0; have f1 := zf 1; have f2 := zf 2; have f3 := zf 3; have f4 := zf 4; have f5 := zf 5
  have R6 := Lib.hid (ip.box6 (ip.six hq (.int .i64 0) (.int .i64 0) (.int .i64 0) (.slice none 0 0) (.slice none 0 0) (.slice none 0 0)))
  have BF := Lib.hid (ip.six_below B2.out (Nat.le_refl _) (.int .i64 0) (.int .i64 0) (.int .i64 0) (.slice none 0 0) (.slice none 0 0) (.slice none 0 0))
  clear HS hB B0 H0 hq zf
  go_wp2
  obtain ⟨r0, r1, r2, r3, r4, r5⟩ := R6.out
  exact bodyPost_ret (v := .tuple #[.agg #[.int .i64 0, .int .i64 0, .int .i64 0, .slice none 0 0, .slice none 0 0, .slice none 0 0], .int .i64 p, .int .i64 er]) (by simp [results, Tryd.results11, go_sem, r0, r1, r2, r3, r4, r5]) rfl ⟨rfl, BF.out⟩
end Go.Proofs.YtjlaankgfpjeeaaDoor

/-
  Parse, where the scan tells tokens.
-/
namespace Go.Proofs.YtjlaankgfpjeeaaDoor
open Go.RowKit
set_option linter.unusedVariables false
theorem bg {B b : Nat} {a w w' : World} (h : Below B a w) (hg : w.grownBy w' (some b)) (hb : B ≤ b) (hB : B ≤ w.heap.size) : Below B a w' :=
  ⟨hg.os.trans h.os, hg.tape.trans h.tape, hg.output.trans h.output, Nat.le_trans h.size hg.size, fun i hi => (hg.block i (Nat.lt_of_lt_of_le hi hB) (fun e => by injection e with e; omega)).trans (h.block i hi)⟩
theorem ppost_any {b g C : Nat} {T : List Tok} {w w' : World} {r : Ending} (h : PPost b g C T w r w') : ∃ (x y z : Int) (d1 d2 d3 : Option Addr) (l1 l2 l3 c1 c2 c3 : Nat), r = .returned (.agg #[.int .i64 x, .int .i64 y, .int .i64 z, .slice d1 l1 c1, .slice d2 l2 c2, .slice d3 l3 c3]) ∧ RS b g C T (PS T) w' ∧ w.grownBy w' (some b) := by
  unfold PPost at h
  split at h
  · obtain ⟨gc, gs, rfl, hR, hT, hG⟩ := h
    exact ⟨_, _, _, _, _, _, _, _, _, _, _, _, rfl, hR, hG⟩
  · split at h
    · obtain ⟨gc, gs, rfl, hR, hT, hG⟩ := h
      exact ⟨_, _, _, _, _, _, _, _, _, _, _, _, rfl, hR, hG⟩
    · obtain ⟨aw, av, cw, cv, rfl, hW, hV, hR, hG⟩ := h
      exact ⟨_, _, _, _, _, _, _, _, _, _, _, _, rfl, hR, hG⟩
/-- the box of a new reader -/
def rbox (g n cap : Nat) : Obj := .cells #[.slice (some ⟨g, 0, none⟩) n cap, .int .i64 0] 61 (0, 0)
theorem rs_new {g cap : Nat} {T : List Tok} {w : World} {B : Nat} (hT : Toks T) (h : w.ownsRow B 64 4 (.slice (some ⟨g, 0, none⟩) T.length cap) T.length (encL T)) : RS w.heap.size g cap T ⟨0, 0⟩ (w.alloc (rbox g T.length cap)) := by
  rcases h.2 with ⟨e, _⟩ | ⟨g', cap', cur, e, _, hh, hn, _, hs, ht⟩
  · cases e
  · injection e with e1 e2 e3
    injection e1 with e1
    injection e1 with e1
    subst e1 e3
    refine ⟨heap_alloc_new w _, ⟨cur, (Below.heap_alloc w _ _ (lt_blk hh)).trans hh, fun j hj => ?_⟩, hT.pos, hn, hT⟩
    rw [← ht, List.getElem?_take_of_lt hj]
    exact (Array.getElem?_toList).symm
set_option maxRecDepth 100000 in
set_option maxHeartbeats 4000000 in
theorem parse_toks (s : ByteArray) (T : List Tok) (hT : Toks T) (w : World) (HS : Hid (∀ W, Calls Tryd.prog 18 #[.string s] W fun e w' => ∃ v, e = .returned (.tuple #[v, .int .i64 0, .int .i64 0]) ∧ w'.ownsRow W.heap.size 64 4 v T.length (encL T) ∧ Below W.heap.size W w')) :
    Calls Tryd.prog 11 #[.string s] w (PaP w (PR T)) := by
  have B0 : Hid (Below w.heap.size w (w.alloc zero6)) := bl_al (Below.refl _ _) _
  have H0 : Hid ((w.alloc zero6).heap[w.heap.size]? = some zero6 ∧ w.heap.size < (w.alloc zero6).heap.size) := ⟨heap_alloc_new w zero6, by simp⟩
  unfold zero6 at B0 H0
  by_cases hf : (fin T (PS T)).f = 0
  · obtain ⟨P, hP⟩ : ∃ P, P = PS T := ⟨_, rfl⟩
    have hfin := (fin_ok hf).2.1
    have HP := Lib.hid hP
    have HT := Lib.hid hT
    have HF := Lib.hid hf
    have HFI := Lib.hid hfin
    clear hP hT hf hfin
    go_enter Tryd.func11, Tryd.ntmps11
    go_wp2_with fail
    refine (HS.out _).mono ?_
    rintro e w1 ⟨v, rfl, hO, hB⟩
    obtain ⟨g, cap, rfl, hg1, hg2⟩ := hO.form HT.out.pos
    have B1 := Lib.hid (bl_tr B0.out hB)
    have H1 : Hid (w1.heap[w.heap.size]? = some (.cells #[.int .i64 0, .int .i64 0, .int .i64 0, .slice none 0 0, .slice none 0 0, .slice none 0 0] 25 (0, 0)) ∧ w.heap.size < w1.heap.size) := ⟨(hB.block _ H0.out.2).trans H0.out.1, by have := hB.size; have := H0.out.2; omega⟩
    have HPb := Lib.hid (problem_s w1.heap.size g cap T (w1.alloc (rbox g T.length cap)) (rs_new HT.out hO))
    have B2 : Hid (Below w.heap.size w (w1.alloc (rbox g T.length cap)) ∧ (w1.alloc (rbox g T.length cap)).heap[w.heap.size]? = some (.cells #[.int .i64 0, .int .i64 0, .int .i64 0, .slice none 0 0, .slice none 0 0, .slice none 0 0] 25 (0, 0)) ∧ (w1.alloc (rbox g T.length cap)).heap.size = w1.heap.size + 1 ∧ w.heap.size < w1.heap.size) :=
      ⟨bl_al B1.out _, (Below.heap_alloc w1 _ _ H1.out.2).trans H1.out.1, by simp, H1.out.2⟩
    unfold rbox at HPb B2
    clear HS hO hB B0 H0 B1 H1 hg1 hg2
    go_wp2_with fail
    refine HPb.out.mono ?_
    intro e w2 hPP
    obtain ⟨v, K, N, Cc, wl, vl, cl, hPR, rfl, hV, hR, hG⟩ := pr_ok HT.out hPP (by have := HF.out; exact this)
    have HPR := Lib.hid hPR
    obtain ⟨wa, va, ca, wc, vc, cc, hv, hrest⟩ := hV.ex
    clear hrest
    subst hv
    obtain ⟨o, ho⟩ : ∃ o, o = (Obj.cells #[.int .i64 K, .int .i64 N, .int .i64 Cc, .slice wa wl.length wc, .slice va vl.length vc, .slice ca cl.length cc] 25 (0, 0)) := ⟨_, rfl⟩
    have HE := Lib.hid (end_s w1.heap.size g cap T (PS T) (w2.alloc o) (hR.alloc o))
    have V3 := Lib.hid (hV.up (bl_al (Below.refl _ _) o))
    have B3 : Hid (Below w.heap.size w (w2.alloc o) ∧ (w2.alloc o).heap[w.heap.size]? = some (.cells #[.int .i64 0, .int .i64 0, .int .i64 0, .slice none 0 0, .slice none 0 0, .slice none 0 0] 25 (0, 0)) ∧ w1.heap.size < w2.heap.size ∧ w.heap.size < w1.heap.size ∧ (w2.alloc o).heap[w2.heap.size]? = some o ∧ (w1.alloc (.cells #[.slice (some ⟨g, 0, none⟩) T.length cap, .int .i64 0] 61)).heap.size = w1.heap.size + 1 ∧ ∃ cs : Array Value, (w2.alloc o).heap[w1.heap.size]? = some (.cells cs 61 (0, 0))) := by
      obtain ⟨a1, a2, a3, a4⟩ := B2.out
      have hz := hG.size
      have k1 := bg a1 hG (by omega) (by omega)
      refine ⟨k1.alloc k1.size o, (Below.heap_alloc w2 o _ (by omega)).trans ((hG.block _ (by omega) (fun e => by injection e with e; omega)).trans a2), by omega, a4, heap_alloc_new w2 o, a3, (hR.alloc o).rbox⟩
    subst ho
    clear HPb hPP hR hG B2 hV hPR
    go_wp2_with fail
    refine HE.out.mono ?_
    rintro e w3 ⟨rfl, hR, hG⟩
    obtain ⟨k0, k1, k2⟩ := hR.box.cells
    have hf0 : (fin T (PS T)).f = 0 := HF.out
    rw [hf0] at k1
    have BF : Hid (Below w.heap.size w w3 ∧ IV (.agg #[.int .i64 K, .int .i64 N, .int .i64 Cc, .slice wa wl.length wc, .slice va vl.length vc, .slice ca cl.length cc]) K N Cc wl vl cl (w1.heap.size + 1) w3 ∧ w.heap.size < w1.heap.size) := by
      obtain ⟨a1, a2, a3, a4, a5, a6, cs, a7⟩ := B3.out
      have hv3 := V3.out.kept hG a7 (by decide) (by decide)
      rw [a6] at hv3
      exact ⟨bg a1 hG (by omega) (by simp; omega), hv3, a4⟩
    obtain ⟨hq, hi⟩ : w3.heap[w.heap.size]? = some (.cells #[.int .i64 0, .int .i64 0, .int .i64 0, .slice none 0 0, .slice none 0 0, .slice none 0 0] 25 (0, 0)) ∧ w3.heap[w2.heap.size]? = some (.cells #[.int .i64 K, .int .i64 N, .int .i64 Cc, .slice wa wl.length wc, .slice va vl.length vc, .slice ca cl.length cc] 25 (0, 0)) := by
      obtain ⟨a1, a2, a3, a4, a5, a6, cs, a7⟩ := B3.out
      exact ⟨(hG.block _ (by simp; omega) (fun e => by injection e with e; omega)).trans a2, (hG.block _ (by simp) (fun e => by injection e with e; omega)).trans a5⟩
    obtain ⟨z0, z1, z2, z3, z4, z5⟩ := ip.box6 hq
    have zf := ip.fr6 hq
    have f0 := zf 0; have f1 := zf 1; have f2 := zf 2; have f3 := zf 3; have f4 := zf 4; have f5 := zf 5
    obtain ⟨y0, y1, y2, y3, y4, y5⟩ := ip.box6 hi
    have R6 := Lib.hid (ip.box6 (ip.six hq (.int .i64 K) (.int .i64 N) (.int .i64 Cc) (.slice wa wl.length wc) (.slice va vl.length vc) (.slice ca cl.length cc)))
    have FN : Hid (PaP w (PR T) (.returned (.tuple #[.agg #[.int .i64 K, .int .i64 N, .int .i64 Cc, .slice wa wl.length wc, .slice va vl.length vc, .slice ca cl.length cc], .int .i64 0, .int .i64 0])) ((((((w3.setCell ⟨w.heap.size, 0, none⟩ (.int .i64 K)).setCell ⟨w.heap.size, 1, none⟩ (.int .i64 N)).setCell ⟨w.heap.size, 2, none⟩ (.int .i64 Cc)).setCell ⟨w.heap.size, 3, none⟩ (.slice wa wl.length wc)).setCell ⟨w.heap.size, 4, none⟩ (.slice va vl.length vc)).setCell ⟨w.heap.size, 5, none⟩ (.slice ca cl.length cc))) := by
      obtain ⟨a1, a2, a3⟩ := BF.out
      rw [HPR.out]
      refine ⟨_, rfl, ?_, ip.six_below a1 (Nat.le_refl _) _ _ _ _ _ _⟩
      have hq : w.heap.size < w1.heap.size + 1 := by omega
      exact ((((((a2.set hq 0 _).set hq 1 _).set hq 2 _).set hq 3 _).set hq 4 _).set hq 5 _).le (by omega)
    clear HE hR hG k0 k2 BF hq hi zf hf0 B3 V3 HPR HFI HF HP HT
    go_wp2
    obtain ⟨r0, r1, r2, r3, r4, r5⟩ := R6.out
    exact bodyPost_ret (v := .tuple #[.agg #[.int .i64 K, .int .i64 N, .int .i64 Cc, .slice wa wl.length wc, .slice va vl.length vc, .slice ca cl.length cc], .int .i64 0, .int .i64 0]) (by simp [results, Tryd.results11, go_sem, r0, r1, r2, r3, r4, r5]) rfl FN.out
  · have hPR : PR T = .bad (tk T (fin T (PS T)).p).at_ (fin T (PS T)).f := by unfold PR; rw [if_pos hf]
    rw [hPR]
    unfold PaP
    obtain ⟨P, hP⟩ : ∃ P, P = fin T (PS T) := ⟨_, rfl⟩
    rw [← hP] at hf ⊢
    have HP := Lib.hid hP
    have HT := Lib.hid hT
    obtain ⟨er, her⟩ : ∃ er, er = P.f := ⟨_, rfl⟩
    obtain ⟨at_, hat⟩ : ∃ at_, at_ = (tk T P.p).at_ := ⟨_, rfl⟩
    rw [← her, ← hat]
    have HEA := Lib.hid (And.intro her hat)
    clear hP hPR hT her hat
    go_enter Tryd.func11, Tryd.ntmps11
    go_wp2_with fail
    refine (HS.out _).mono ?_
    rintro e w1 ⟨v, rfl, hO, hB⟩
    obtain ⟨g, cap, rfl, hg1, hg2⟩ := hO.form HT.out.pos
    have B1 := Lib.hid (bl_tr B0.out hB)
    have H1 : Hid (w1.heap[w.heap.size]? = some (.cells #[.int .i64 0, .int .i64 0, .int .i64 0, .slice none 0 0, .slice none 0 0, .slice none 0 0] 25 (0, 0)) ∧ w.heap.size < w1.heap.size) := ⟨(hB.block _ H0.out.2).trans H0.out.1, by have := hB.size; have := H0.out.2; omega⟩
    have HPb := Lib.hid (problem_s w1.heap.size g cap T (w1.alloc (rbox g T.length cap)) (rs_new HT.out hO))
    have B2 : Hid (Below w.heap.size w (w1.alloc (rbox g T.length cap)) ∧ (w1.alloc (rbox g T.length cap)).heap[w.heap.size]? = some (.cells #[.int .i64 0, .int .i64 0, .int .i64 0, .slice none 0 0, .slice none 0 0, .slice none 0 0] 25 (0, 0)) ∧ (w1.alloc (rbox g T.length cap)).heap.size = w1.heap.size + 1 ∧ w.heap.size < w1.heap.size) :=
      ⟨bl_al B1.out _, (Below.heap_alloc w1 _ _ H1.out.2).trans H1.out.1, by simp, H1.out.2⟩
    unfold rbox at HPb B2
    clear HS hO hB B0 H0 B1 H1 hg1 hg2
    go_wp2_with fail
    refine HPb.out.mono ?_
    intro e w2 hPP
    obtain ⟨x, y, z, d1, d2, d3, l1, l2, l3, c1, c2, c3, rfl, hR, hG⟩ := ppost_any hPP
    obtain ⟨o, ho⟩ : ∃ o, o = (Obj.cells #[.int .i64 x, .int .i64 y, .int .i64 z, .slice d1 l1 c1, .slice d2 l2 c2, .slice d3 l3 c3] 25 (0, 0)) := ⟨_, rfl⟩
    have HE := Lib.hid (end_s w1.heap.size g cap T (PS T) (w2.alloc o) (hR.alloc o))
    rw [← HP.out] at HE
    have B3 : Hid (Below w.heap.size w (w2.alloc o) ∧ (w2.alloc o).heap[w.heap.size]? = some (.cells #[.int .i64 0, .int .i64 0, .int .i64 0, .slice none 0 0, .slice none 0 0, .slice none 0 0] 25 (0, 0)) ∧ w1.heap.size < w2.heap.size ∧ w.heap.size < w1.heap.size) := by
      obtain ⟨a1, a2, a3, a4⟩ := B2.out
      have hz := hG.size
      have k1 := bg a1 hG (by omega) (by omega)
      refine ⟨k1.alloc k1.size o, (Below.heap_alloc w2 o _ (by omega)).trans ((hG.block _ (by omega) (fun e => by injection e with e; omega)).trans a2), by omega, a4⟩
    subst ho
    clear HPb hPP hR hG B2
    go_wp2_with fail
    refine HE.out.mono ?_
    rintro e w3 ⟨rfl, hR, hG⟩
    have hlt := hR.lt
    have hcap := hR.cap
    obtain ⟨k0, k1, k2⟩ := hR.drew.box.cells
    obtain ⟨t0, t1, t2, t3⟩ := hR.drew.toks.front hlt
    have d0 : (P.f != 0) = true := by simpa using hf
    obtain ⟨m, hm⟩ : ∃ m, T.length - P.p = m + 1 := ⟨T.length - P.p - 1, by omega⟩
    obtain ⟨cc, hcc⟩ : ∃ cc, cap - P.p = cc + 1 := ⟨cap - P.p - 1, by omega⟩
    rw [hm, hcc] at k0
    rw [← HEA.out.1] at k1 d0
    rw [← HEA.out.2] at t3
    have kk1 : w3.cell? ⟨w1.heap.size, 1, none⟩ = some (.int .i64 er) := k1
    clear HEA
    have BF : Hid (Below w.heap.size w w3 ∧ w3.heap[w.heap.size]? = some (.cells #[.int .i64 0, .int .i64 0, .int .i64 0, .slice none 0 0, .slice none 0 0, .slice none 0 0] 25 (0, 0)) ∧ w.heap.size ≠ w1.heap.size ∧ w.heap.size ≠ g) := by
      obtain ⟨a1, a2, a3, a4⟩ := B3.out
      have e1 := bg a1 hG (by omega) (by simp; omega)
      have e2 := (hG.block _ (by simp; omega) (fun e => by injection e with e; omega)).trans a2
      exact ⟨e1, e2, by omega, (hR.far e2 (by decide) (by decide)).2⟩
    generalize w1.heap.size = b at *
    clear HE hR hG B3 hf k2 t0 t1 t2 hm hcc hlt hcap HP
    generalize P.p = p at *
    go_wp2
    have hq := BF.out.2.1
    have hqd : w3.drew.heap[w.heap.size]? = some (.cells #[.int .i64 0, .int .i64 0, .int .i64 0, .slice none 0 0, .slice none 0 0, .slice none 0 0] 25 (0, 0)) := hq
    obtain ⟨z0, z1, z2, z3, z4, z5⟩ := ip.box6 hqd
    have zf := ip.fr6 hqd
    have f0 := zf 0; have f1 := zf 1; have f2 := zf 2; have f3 := zf 3; have f4 := zf 4; have f5 := zf 5
    have hq6 := ip.six hqd (.int .i64 0) (.int .i64 0) (.int .i64 0) (.slice none 0 0) (.slice none 0 0) (.slice none 0 0)
    have R6 := Lib.hid (ip.box6 hq6)
    have hne := ip.six_other (w := w3.drew) (g := w.heap.size) (k := b) (fun e => BF.out.2.2.1 e.symm) (.int .i64 0) (.int .i64 0) (.int .i64 0) (.slice none 0 0) (.slice none 0 0) (.slice none 0 0)
    have hng := ip.six_other (w := w3.drew) (g := w.heap.size) (k := g) (fun e => BF.out.2.2.2 e.symm) (.int .i64 0) (.int .i64 0) (.int .i64 0) (.slice none 0 0) (.slice none 0 0) (.slice none 0 0)
    have Y := Lib.hid (And.intro ((World.cell?_of_block (a := ⟨b, 0, none⟩) hne).trans k0) (And.intro ((World.cell?_of_block (a := ⟨b, 1, none⟩) hne).trans k1) ((World.cell?_of_block (a := ⟨g, 4 * p + 3, none⟩) hng).trans t3)))
    have BZ := Lib.hid (ip.six_below (show Below w.heap.size w w3.drew from ⟨BF.out.1.os, BF.out.1.tape, BF.out.1.output, BF.out.1.size, BF.out.1.block⟩) (Nat.le_refl _) (.int .i64 0) (.int .i64 0) (.int .i64 0) (.slice none 0 0) (.slice none 0 0) (.slice none 0 0))
    clear hq hqd zf hq6 hne hng BF kk1
    refine wp_region_held_drew (S := fun w' => w'.cell? ⟨b, 0, none⟩ = some (.slice (some ⟨g, 4 * p, none⟩) (m + 1) (cc + 1)) ∧ w'.cell? ⟨b, 1, none⟩ = some (.int .i64 er) ∧ w'.cell? ⟨g, 4 * p + 3, none⟩ = some (.int .i64 at_)) (by kernel_rfl) ⟨k0, k1, t3⟩ (fun hHeld => ?_)
    generalize World.drew _ = W3 at *
    refine wpAnyH_take (i := 0) (v := ?v0) (by rw [List.getElem?_toArray]; rfl) (by kernel_rfl) (by kernel_rfl) (by kernel_rfl) ?q0 (Or.inl ⟨by rfl, ?y0⟩) (by assumption) ?r0
    case q0 => exact fun _ _ _ h => h
    case y0 => (intro wz hSw; obtain ⟨s0, s1, s2⟩ := hSw; go_simp; try (with_reducible rfl))
    simp only [Act.put, List.setIfInBounds_toArray, List.set_cons_zero, List.set_cons_succ]
    refine wpAnyH_take (i := 1) (v := ?v1) (by rw [List.getElem?_toArray]; rfl) (by kernel_rfl) (by kernel_rfl) (by kernel_rfl) ?q1 (Or.inl ⟨by rfl, ?y1⟩) (by assumption) ?r1
    case q1 => exact fun _ _ _ h => h
    case y1 => (intro wz hSw; obtain ⟨s0, s1, s2⟩ := hSw; go_simp; try (with_reducible rfl))
    simp only [Act.put, List.setIfInBounds_toArray, List.set_cons_zero, List.set_cons_succ]
    refine wpAnyH_take (i := 2) (v := ?v2) (by rw [List.getElem?_toArray]; rfl) (by kernel_rfl) (by kernel_rfl) (by kernel_rfl) ?q2 (Or.inl ⟨by rfl, ?y2⟩) (by assumption) ?r2
    case q2 => exact fun _ _ _ h => h
    case y2 => (intro wz hSw; obtain ⟨s0, s1, s2⟩ := hSw; go_simp; try (with_reducible rfl))
    simp only [Act.put, List.setIfInBounds_toArray, List.set_cons_zero, List.set_cons_succ]
    refine wpAnyH_take (i := 3) (v := ?v3) (by rw [List.getElem?_toArray]; rfl) (by kernel_rfl) (by kernel_rfl) (by kernel_rfl) ?q3 (Or.inl ⟨by rfl, ?y3⟩) (by assumption) ?r3
    case q3 => exact fun _ _ _ h => h
    case y3 => (intro wz hSw; obtain ⟨s0, s1, s2⟩ := hSw; go_simp; try (with_reducible rfl))
    simp only [Act.put, List.setIfInBounds_toArray, List.set_cons_zero, List.set_cons_succ]
    refine wpAnyH_take (i := 4) (v := ?v4) (by rw [List.getElem?_toArray]; rfl) (by kernel_rfl) (by kernel_rfl) (by kernel_rfl) ?q4 (Or.inl ⟨by rfl, ?y4⟩) (by assumption) ?r4
    case q4 => exact fun _ _ _ h => h
    case y4 => (intro wz hSw; obtain ⟨s0, s1, s2⟩ := hSw; go_simp; try (with_reducible rfl))
    simp only [Act.put, List.setIfInBounds_toArray, List.set_cons_zero, List.set_cons_succ]
    refine wpAnyH_take (i := 5) (v := ?v5) (by rw [List.getElem?_toArray]; rfl) (by kernel_rfl) (by kernel_rfl) (by kernel_rfl) ?q5 (Or.inl ⟨by rfl, ?y5⟩) (by assumption) ?r5
    case q5 => exact fun _ _ _ h => h
    case y5 => (intro wz hSw; obtain ⟨s0, s1, s2⟩ := hSw; go_simp; try (with_reducible rfl))
    simp only [Act.put, List.setIfInBounds_toArray, List.set_cons_zero, List.set_cons_succ]
    refine wpAnyH_take (i := 6) (v := ?v6) (by rw [List.getElem?_toArray]; rfl) (by kernel_rfl) (by kernel_rfl) (by kernel_rfl) ?q6 (Or.inl ⟨by rfl, ?y6⟩) (by assumption) ?r6
    case q6 => exact fun _ _ _ h => h
    case y6 => (intro wz hSw; obtain ⟨s0, s1, s2⟩ := hSw; go_simp; try (with_reducible rfl))
    simp only [Act.put, List.setIfInBounds_toArray, List.set_cons_zero, List.set_cons_succ]
    refine wpAnyH_take (i := 7) (v := ?v7) (by rw [List.getElem?_toArray]; rfl) (by kernel_rfl) (by kernel_rfl) (by kernel_rfl) ?q7 (Or.inl ⟨by rfl, ?y7⟩) (by assumption) ?r7
    case q7 => exact fun _ _ _ h => h
    case y7 => (intro wz hSw; obtain ⟨s0, s1, s2⟩ := hSw; go_simp; try (with_reducible rfl))
    simp only [Act.put, List.setIfInBounds_toArray, List.set_cons_zero, List.set_cons_succ]
    refine wpAnyH_take (i := 8) (v := ?v8) (by rw [List.getElem?_toArray]; rfl) (by kernel_rfl) (by kernel_rfl) (by kernel_rfl) ?q8 (Or.inl ⟨by rfl, ?y8⟩) (by assumption) ?r8
    case q8 => exact fun _ _ _ h => h
    case y8 => (intro wz hSw; obtain ⟨s0, s1, s2⟩ := hSw; go_simp; try (with_reducible rfl))
    simp only [Act.put, List.setIfInBounds_toArray, List.set_cons_zero, List.set_cons_succ]
    refine wpAnyH_take (i := 9) (v := ?v9) (by rw [List.getElem?_toArray]; rfl) (by kernel_rfl) (by kernel_rfl) (by kernel_rfl) ?q9 (Or.inl ⟨by rfl, ?y9⟩) (by assumption) ?r9
    case q9 => exact fun _ _ _ h => h
    case y9 => (intro wz hSw; obtain ⟨s0, s1, s2⟩ := hSw; go_simp; try (with_reducible rfl))
    simp only [Act.put, List.setIfInBounds_toArray, List.set_cons_zero, List.set_cons_succ]
    refine wpAnyH_take (i := 10) (v := ?v10) (by rw [List.getElem?_toArray]; rfl) (by kernel_rfl) (by kernel_rfl) (by kernel_rfl) ?q10 (Or.inl ⟨by rfl, ?y10⟩) (by assumption) ?r10
    case q10 => exact fun _ _ _ h => h
    case y10 => (intro wz hSw; obtain ⟨s0, s1, s2⟩ := hSw; go_simp; try (with_reducible rfl))
    simp only [Act.put, List.setIfInBounds_toArray, List.set_cons_zero, List.set_cons_succ]
    refine wpAnyH_take (i := 11) (v := ?v11) (by rw [List.getElem?_toArray]; rfl) (by kernel_rfl) (by kernel_rfl) (by kernel_rfl) ?q11 (Or.inl ⟨by rfl, ?y11⟩) (by assumption) ?r11
    case q11 => exact fun _ _ _ h => h
    case y11 => (intro wz hSw; obtain ⟨s0, s1, s2⟩ := hSw; go_simp; try (with_reducible rfl))
    simp only [Act.put, List.setIfInBounds_toArray, List.set_cons_zero, List.set_cons_succ]
    refine wpAnyH_ready (rs := [12]) (by kernel_rfl) (by simp) ?_
    refine AllReadyH.cons (by rw [List.getElem?_toArray]; rfl) (fun K hK => ?_) AllReadyH.nil
    clear hHeld
    go_simp
    refine hK.out _ _ Y.out (fun hHeld => ?_)
    clear hK K Y
    refine wpAnyH_take (i := 13) (v := ?v13) (by rw [List.getElem?_toArray]; rfl) (by kernel_rfl) (by kernel_rfl) (by kernel_rfl) ?q13 (Or.inl ⟨by rfl, ?y13⟩) (by assumption) ?r13
    case q13 => exact fun _ _ _ h => h
    case y13 => (intro wz hSw; clear hSw; go_simp; try (with_reducible rfl))
    simp only [Act.put, List.setIfInBounds_toArray, List.set_cons_zero, List.set_cons_succ]
    refine wpAnyH_take (i := 14) (v := ?v14) (by rw [List.getElem?_toArray]; rfl) (by kernel_rfl) (by kernel_rfl) (by kernel_rfl) ?q14 (Or.inl ⟨by rfl, ?y14⟩) (by assumption) ?r14
    case q14 => exact fun _ _ _ h => h
    case y14 => (intro wz hSw; clear hSw; go_simp; try (with_reducible rfl))
    simp only [Act.put, List.setIfInBounds_toArray, List.set_cons_zero, List.set_cons_succ]
    refine wpAnyH_done (by kernel_rfl) ?_ _
    clear hHeld k0 k1 t3
    go_wp2
    obtain ⟨r0, r1, r2, r3, r4, r5⟩ := R6.out
    exact bodyPost_ret (v := .tuple #[.agg #[.int .i64 0, .int .i64 0, .int .i64 0, .slice none 0 0, .slice none 0 0, .slice none 0 0], .int .i64 at_, .int .i64 er]) (by simp [results, Tryd.results11, go_sem, r0, r1, r2, r3, r4, r5]) rfl ⟨rfl, BZ.out⟩
/-- what Parse answers, of every text -/
theorem parse_any (s : ByteArray) (w : World) : Calls Tryd.prog 11 #[.string s] w (PaP w (PXX s)) := by
  unfold PXX
  by_cases hs : 65536 < s.size
  · rw [if_pos hs]
    exact parse_err s 0 5 (by decide) w (Lib.hid fun W => (scan_long s hs W).mono fun e w' h => ⟨h.1, by rw [← h.2]; exact Below.refl _ _⟩)
  · rw [if_neg hs]
    unfold PX
    have H := fun W => scan_any s (by omega) W
    cases hsp : SP s 0 [] with
    | ok T =>
      rw [hsp] at H
      exact parse_toks s T (SP_toks (by omega) hsp) w (Lib.hid H)
    | bad p e =>
      rw [hsp] at H
      exact parse_err s p e (SP_bad hsp) w (Lib.hid H)
end Go.Proofs.YtjlaankgfpjeeaaDoor

/-
  What parses answers; a problem told by Parse, to be compared.
-/
namespace Go.Proofs.YtjlaankgfpjeeaaDoor
open Go.RowKit
set_option linter.unusedVariables false
theorem ok_n {T : List Tok} (hT : Toks T) (hf : (fin T (PS T)).f = 0) : (tk T 1).num.toNat ≤ 64 := by
  have hp := fin_zero hf
  have key : ∀ most : Nat, most ≤ 64 → (sz T (s1 T) most).f = 0 → (tk T 1).num.toNat ≤ 64 := fun most hm h => by
    obtain ⟨b1, b2, b3⟩ := n_ok hT h
    have c1 := s1_ok b1
    rw [c1] at b2
    have := nOf_le T ⟨1, 0⟩ most
    have e : nOf T ⟨1, 0⟩ most = (tk T 1).num.toNat := b2
    omega
  unfold PS at hp
  split at hp
  · exact key 24 (by omega) (steps_zero eK T _ _ hp).1
  · split at hp
    · unfold tSt at hp
      split at hp
      · exact key 24 (by omega) (s3_ok (steps_zero _ T _ _ hp).1).1
      · exact key 24 (by omega) (s3_ok (steps_zero _ T _ _ hp).1).1
    · exact key 64 (by omega) (steps_zero eK T _ _ hp).1
theorem pr_len {T : List Tok} (hT : Toks T) {K : Int} {N : Nat} {C : Int} {wl vl : List Int} {cl : List (List Int)} (h : PR T = .ok K N C wl vl cl) : wl.length ≤ 64 ∧ vl.length ≤ 64 ∧ cl.length ≤ 64 := by
  have hf : (fin T (PS T)).f = 0 := by
    rcases Decidable.em ((fin T (PS T)).f = 0) with q | q
    · exact q
    · unfold PR at h; rw [if_pos q] at h; cases h
  have hn := ok_n hT hf
  unfold PR at h
  rw [if_neg (by rw [hf]; simp)] at h
  split at h
  · injection h with _ _ _ h1 h2 h3; subst h1 h2 h3; rw [tab_len]; exact ⟨by simp, by simp, hn⟩
  · split at h
    · split at h
      · injection h with _ _ _ h1 h2 h3; subst h1 h2 h3; rw [tab_len]; exact ⟨by simp, by simp, hn⟩
      · injection h with _ _ _ h1 h2 h3; subst h1 h2 h3; rw [tab_len]; exact ⟨by simp, by simp, hn⟩
    · injection h with _ _ _ h1 h2 h3; subst h1 h2 h3; exact ⟨by simp [kWl]; omega, by simp [kVl]; omega, by simp⟩
theorem pxx_len {s : ByteArray} {K : Int} {N : Nat} {C : Int} {wl vl : List Int} {cl : List (List Int)} (h : PXX s = .ok K N C wl vl cl) : wl.length ≤ 64 ∧ vl.length ≤ 64 ∧ cl.length ≤ 64 := by
  unfold PXX at h
  by_cases hs : 65536 < s.size
  · rw [if_pos hs] at h; cases h
  · rw [if_neg hs] at h
    unfold PX at h
    cases hsp : SP s 0 [] with
    | ok T => rw [hsp] at h; exact pr_len (SP_toks (by omega) hsp) h
    | bad p e => rw [hsp] at h; cases h
theorem ints_any {W : World} {B n c : Nat} {a : Option Addr} {l : List Int} (hl : l.length = n) (h : W.ownsRow B 3 1 (.slice a n c) n (enc l)) : ip.Ints W a l := fun j hj => by
  obtain ⟨g, cap, e, h1, h2⟩ := h.form (by omega)
  injection e with e1 e2 e3
  subst e1 e3
  refine ⟨g, 0, rfl, h2, ?_⟩
  rw [Nat.zero_add, h.cellAt j (by omega)]
  unfold enc
  rw [List.getElem?_map, List.getElem?_eq_getElem hj]
  rfl
theorem rws_tbl {W : World} {B g n : Nat} {gs : Nat → Nat} {M : Nat → Nat → Int} (hn : n ≤ 1000) (h : TBL B g n gs M W) : ip.Rws W (some ⟨g, 0, none⟩) (tab n M) := fun j hj => by
  rw [tab_len] at hj
  have e : (tab n M)[j]?.getD [] = (List.range n).map fun b => M j b := by unfold tab; simp [hj]
  rw [e]
  have l : ((List.range n).map fun b => M j b).length = n := by simp
  rw [l]
  refine ⟨g, 0, some ⟨gs j, 0, none⟩, n, rfl, (h.top.lt g rfl).2, ?_, fun b hb => ?_, hn⟩
  · rw [Nat.zero_add]; exact h.rowAt hj
  · rw [l] at hb
    refine ⟨gs j, 0, rfl, ((h.rows j hj).lt (gs j) rfl).2, ?_⟩
    rw [Nat.zero_add, h.cellAt hj hb]
    simp [hb]
theorem IV.lists {v : Value} {K : Int} {N : Nat} {C : Int} {wl vl : List Int} {cl : List (List Int)} {B : Nat} {w : World} (h : IV v K N C wl vl cl B w) (hn : cl.length ≤ 64) :
    ∃ (wa va ca : Option Addr) (wc vc cc : Nat), v = .agg #[.int .i64 K, .int .i64 N, .int .i64 C, .slice wa wl.length wc, .slice va vl.length vc, .slice ca cl.length cc] ∧ ip.Ints w wa wl ∧ ip.Ints w va vl ∧ ip.Rws w ca cl := by
  obtain ⟨wa, va, ca, wc, vc, cc, hv, hW, hV, hC⟩ := h.ex
  refine ⟨wa, va, ca, wc, vc, cc, hv, ints_any rfl hW, ints_any rfl hV, ?_⟩
  rcases hC with ⟨rfl, _⟩ | ⟨gc, gs, M, rfl, _, e3, hT⟩
  · exact fun j hj => absurd hj (by simp)
  · have := rws_tbl (by omega) hT
    rw [← e3] at this
    exact this
def txA : ByteArray := ⟨#[84, 83, 80, 32, 50, 32, 85, 80, 80, 69, 82, 32, 55]⟩
def txB : ByteArray := ⟨#[75, 78, 65, 80, 83, 65, 67, 75, 32, 48]⟩
theorem pxA : PXX txA = .ok 3 2 0 [] [] [[0, 7], [7, 0]] := by kernel_rfl
theorem pxB : PXX txB = .bad 9 1 := by kernel_rfl
set_option maxRecDepth 100000 in
set_option maxHeartbeats 4000000 in
theorem parses_any (w : World) : Calls Tryd.prog 10 #[] w fun e w' => e = .returned (.bool true) ∧ Below w.heap.size w w' := by
  have HA := Lib.hid (fun W => parse_any txA W)
  have HB := Lib.hid (fun W => parse_any txB W)
  rw [pxA] at HA
  rw [pxB] at HB
  unfold txA at HA
  unfold txB at HB
  go_enter Tryd.func10, Tryd.ntmps10
  go_wp2_with fail
  refine (HA.out _).mono ?_
  rintro e w1 ⟨v, rfl, hV, hB1⟩
  obtain ⟨wa, va, ca, wc, vc, cc, rfl, i1, i2, i3⟩ := hV.lists (by decide)
  obtain ⟨b3, o3, aj, cj, h1, h2, h3, h4, _⟩ := i3 1 (by decide)
  obtain ⟨b4, o4, h5, h6, h7⟩ := h4 0 (by decide)
  subst h1 h5
  have B1 := Lib.hid hB1
  have F1 : Hid (∀ W, Below (w1.alloc (.cells #[.int .i64 3, .int .i64 2, .int .i64 0, .slice wa 0 wc, .slice va 0 vc, .slice (some ⟨b3, o3, none⟩) 2 cc] 25)).heap.size (w1.alloc (.cells #[.int .i64 3, .int .i64 2, .int .i64 0, .slice wa 0 wc, .slice va 0 vc, .slice (some ⟨b3, o3, none⟩) 2 cc] 25)) W →
      W.heap[w1.heap.size]? = some (.cells #[.int .i64 3, .int .i64 2, .int .i64 0, .slice wa 0 wc, .slice va 0 vc, .slice (some ⟨b3, o3, none⟩) 2 cc] 25 (0, 0)) ∧ W.cell? ⟨b3, o3 + 1, none⟩ = some (.slice (some ⟨b4, o4, none⟩) 2 cj) ∧ W.cell? ⟨b4, o4, none⟩ = some (.int .i64 7)) := fun W hW => by
    have e1 : (w1.alloc (.cells #[.int .i64 3, .int .i64 2, .int .i64 0, .slice wa 0 wc, .slice va 0 vc, .slice (some ⟨b3, o3, none⟩) 2 cc] 25)).heap.size = w1.heap.size + 1 := by simp
    have hb : Below w1.heap.size w1 W := ⟨hW.os, hW.tape, hW.output, by have := hW.size; omega, fun k hk => (hW.block k (by omega)).trans (Below.heap_alloc w1 _ k hk)⟩
    exact ⟨(hW.block _ (by omega)).trans (heap_alloc_new w1 _), (hb.cell (p := ⟨b3, o3 + 1, none⟩) h2).trans h3, (hb.cell (p := ⟨b4, o4, none⟩) h6).trans (by have := h7; rw [Nat.add_zero] at this; exact this)⟩
  clear HA hV hB1 i1 i2 i3 h2 h3 h4 h6 h7
  go_wp2_with fail
  refine (HB.out _).mono ?_
  rintro e w2 ⟨rfl, hB2⟩
  obtain ⟨k1, k2, k3⟩ := F1.out (w2.alloc zero6) (bl_al hB2 zero6)
  obtain ⟨y0, y1, y2, y3, y4, y5⟩ := ip.box6 k1
  have B2 : Hid (Below w.heap.size w (w2.alloc zero6)) := by
    have a := bl_tr (bl_al B1.out (.cells #[.int .i64 3, .int .i64 2, .int .i64 0, .slice wa 0 wc, .slice va 0 vc, .slice (some ⟨b3, o3, none⟩) 2 cc] 25)) hB2
    exact bl_al a zero6
  unfold zero6 at y0 y1 y2 y3 y4 y5 k2 k3 B2
  clear HB hB2 F1 B1 k1 y2 y3 y4
  go_wp2
  go_ret
  exact ⟨rfl, B2.out⟩
end Go.Proofs.YtjlaankgfpjeeaaDoor

/-
  assignment.
-/
import Derived.Test.YtegieoajjfodcaaGreatDoorFull
import Derived.Lib.SmallJoins
namespace Go.Proofs.YtegieoajjfodcaaGreatDoor
open Go.RowKit
set_option linter.unusedVariables false
theorem nOf_le (T : List Tok) (s : St) (most : Nat) : nOf T s most ≤ most := by
  unfold nOf
  split
  · rename_i q
    obtain ⟨q1, q2⟩ := sf_ok q.2
    unfold nf at q1
    split at q1
    · omega
    · split at q1
      · omega
      · split at q1
        · omega
        · omega
  · omega
theorem nOf_int {T : List Tok} (hT : Toks T) (s : St) (most : Int) : (if s.f = 0 ∧ sf (tk T s.p) most = 0 then (tk T s.p).num else 0) = (nOf T s most : Int) := by
  unfold nOf
  split
  · have := hT.num s.p; omega
  · rfl
theorem TBL.le {B B' gc n : Nat} {gs : Nat → Nat} {M : Nat → Nat → Int} {w : World} (h : TBL B gc n gs M w) (hB : B' ≤ B) : TBL B' gc n gs M w :=
  ⟨Go.Joins.ownsRow_le h.top hB, fun j hj => Go.Joins.ownsRow_le (h.rows j hj) hB, h.inj⟩
theorem TBL.set {B gc n : Nat} {gs : Nat → Nat} {M : Nat → Nat → Int} {w : World} (h : TBL B gc n gs M w) {q : Nat} (hq : q < B) (j : Nat) (v : Value) : TBL B gc n gs M (w.setCell ⟨q, j, none⟩ v) :=
  ⟨ownsRow_setCell_below (a := ⟨q, j, none⟩) h.top hq v, fun i hi => ownsRow_setCell_below (a := ⟨q, j, none⟩) (h.rows i hi) hq v, h.inj⟩
theorem grown_set {w wr : World} {g b j : Nat} (h : w.grownBy wr (some g)) (hb : w.heap.size ≤ b) (v : Value) : w.grownBy (wr.setCell ⟨b, j, none⟩ v) (some g) :=
  ⟨h.os, h.tape, h.output, by simpa [World.setCell] using h.size, fun i hi hne => (heap_setCell_other wr ⟨b, j, none⟩ i v (by show i ≠ b; omega)).trans (h.block i hi hne)⟩
theorem grown_below {w wr w1 : World} {g : Nat} (h : w.grownBy wr (some g)) (hb : Below wr.heap.size wr w1) : w.grownBy w1 (some g) :=
  ⟨hb.os.trans h.os, hb.tape.trans h.tape, hb.output.trans h.output, Nat.le_trans h.size hb.size, fun i hi hne => (hb.block i (Nat.lt_of_lt_of_le hi h.size)).trans (h.block i hi hne)⟩
theorem grown_up {w wr w1 : World} {g B : Nat} (h : w.grownBy wr (some g)) (hB : w.heap.size ≤ B) (hb : Up B g wr w1) : w.grownBy w1 (some g) :=
  ⟨hb.os.trans h.os, hb.tape.trans h.tape, hb.output.trans h.output, Nat.le_trans h.size hb.size, fun i hi hne => (hb.block i (Nat.lt_of_lt_of_le hi hB) (fun e => hne (by rw [e]))).trans (h.block i hi hne)⟩
def zero6 : Obj := .cells #[.int .i64 0, .int .i64 0, .int .i64 0, .slice none 0 0, .slice none 0 0, .slice none 0 0] 30 (0, 0)
/-- what assignment leaves at a place -/
def FA (T : List Tok) (s : St) (n i j : Nat) : Int := vn eK T s (i * n + j)
/-- the answer is in the box q, and the table behind it -/
theorem out_set {b g C : Nat} {T : List Tok} {B gc n q : Nat} {gs : Nat → Nat} {s : St} {M : Nat → Nat → Int} {w w2 wr : World} {cs : Array Value} (h : FS b g C T B gc n gs s M w2 wr) (hq : wr.heap[q]? = some (.cells cs 30 (0, 0))) (hqB : q < B) (h0 : w.heap.size ≤ q) (hw : w.grownBy w2 (some b)) (v0 v1 v2 v3 v4 v5 : Value) :
    RS b g C T s ((((((wr.setCell ⟨q, 0, none⟩ v0).setCell ⟨q, 1, none⟩ v1).setCell ⟨q, 2, none⟩ v2).setCell ⟨q, 3, none⟩ v3).setCell ⟨q, 4, none⟩ v4).setCell ⟨q, 5, none⟩ v5) ∧
    TBL w.heap.size gc n gs M ((((((wr.setCell ⟨q, 0, none⟩ v0).setCell ⟨q, 1, none⟩ v1).setCell ⟨q, 2, none⟩ v2).setCell ⟨q, 3, none⟩ v3).setCell ⟨q, 4, none⟩ v4).setCell ⟨q, 5, none⟩ v5) ∧
    w.grownBy ((((((wr.setCell ⟨q, 0, none⟩ v0).setCell ⟨q, 1, none⟩ v1).setCell ⟨q, 2, none⟩ v2).setCell ⟨q, 3, none⟩ v3).setCell ⟨q, 4, none⟩ v4).setCell ⟨q, 5, none⟩ v5) (some b) := by
  obtain ⟨h1, h2⟩ := h.rd.far hq (by decide) (by decide)
  refine ⟨?_, ?_, ?_⟩
  · exact (((((h.rd.set h1 h2 0 v0).set h1 h2 1 v1).set h1 h2 2 v2).set h1 h2 3 v3).set h1 h2 4 v4).set h1 h2 5 v5
  · exact ((((((h.tb.set hqB 0 v0).set hqB 1 v1).set hqB 2 v2).set hqB 3 v3).set hqB 4 v4).set hqB 5 v5).le (by omega)
  · exact grown_set (grown_set (grown_set (grown_set (grown_set (grown_set (grown_up hw (by omega) h.up) h0 v0) h0 v1) h0 v2) h0 v3) h0 v4) h0 v5
/-- what assignment and tour answer -/
def TPost (K : Int) (b g C : Nat) (T : List Tok) (s' : St) (n : Nat) (M : Nat → Nat → Int) (w : World) (r : Ending) (w' : World) : Prop :=
  ∃ (gc : Nat) (gs : Nat → Nat), r = .returned (.agg #[.int .i64 K, .int .i64 n, .int .i64 0, .slice none 0 0, .slice none 0 0, .slice (some ⟨gc, 0, none⟩) n n]) ∧ RS b g C T s' w' ∧ TBL w.heap.size gc n gs M w' ∧ w.grownBy w' (some b)
set_option maxRecDepth 100000 in
set_option maxHeartbeats 4000000 in
theorem assign_s (b g C : Nat) (T : List Tok) (s : St) (w : World) (hr : RS b g C T s w) :
    Calls Tryz.prog 42 #[.pointer (some ⟨b, 0, none⟩)] w (TPost 2 b g C T (aSt T s) (nOf T s 24) (FA T (sz T s 24) (nOf T s 24)) w) := by
  have HZ := Lib.hid (size_s b g C T s 24 (w.alloc zero6) (hr.alloc zero6))
  rw [nOf_int hr.form] at HZ
  have hq0 : (w.alloc zero6).heap[w.heap.size]? = some zero6 := heap_alloc_new w zero6
  have hg0 : w.grownBy (w.alloc zero6) (some b) := World.grownBy_alloc w _ _
  have hrb := hr.ltb.1
  have hn := nOf_le T s 24
  have hs0 : (w.alloc zero6).heap.size = w.heap.size + 1 := by simp
  unfold aSt
  obtain ⟨S, hS⟩ : ∃ S, S = sz T s 24 := ⟨_, rfl⟩
  rw [← hS]
  have HZ2 : Hid (Calls Tryz.prog 78 #[.pointer (some ⟨b, 0, none⟩), .int .i64 24] (w.alloc zero6) fun r w' => r = .returned (.int .i64 (nOf T s 24)) ∧ RS b g C T S w' ∧ (w.alloc zero6).grownBy w' (some b)) := by rw [hS]; exact HZ
  clear HZ hS hr
  generalize nOf T s 24 = n at *
  have Q0 : Hid ((w.alloc zero6).heap[w.heap.size]? = some zero6 ∧ w.grownBy (w.alloc zero6) (some b) ∧ b < w.heap.size ∧ (w.alloc zero6).heap.size = w.heap.size + 1) := ⟨hq0, hg0, hrb, hs0⟩
  clear hq0 hg0 hrb hs0
  unfold zero6 at HZ2 Q0
  go_enter Tryz.func42, Tryz.ntmps42
  go_wp2_with fail
  refine HZ2.out.mono ?_
  rintro r w1 ⟨rfl, hR1, hG1⟩
  have HS := Lib.hid (square_any n hn w1)
  have Q1 : Hid (w1.heap[w.heap.size]? = some (.cells #[.int .i64 0, .int .i64 0, .int .i64 0, .slice none 0 0, .slice none 0 0, .slice none 0 0] 30 (0, 0)) ∧ w.grownBy w1 (some b) ∧ w.heap.size < w1.heap.size ∧ w.heap.size ≠ b) := by
    obtain ⟨a1, a2, a3, a4⟩ := Q0.out
    exact ⟨(hG1.block _ (by omega) (fun e => by injection e with e; omega)).trans a1, a2.trans hG1, by have := hG1.size; omega, by omega⟩
  have R1 := Lib.hid hR1
  clear HZ2 Q0 hR1 hG1
  go_wp2_with fail
  refine HS.out.mono ?_
  rintro r w2 ⟨gc, gs, rfl, hT2, hB2⟩
  obtain ⟨BB, hBB⟩ : ∃ BB, BB = w1.heap.size := ⟨_, rfl⟩
  have K1 : Hid (FS b g C T BB gc n gs (steps eK T S (0 * n)) (MT (FA T S n) 0 0) w2 w2) := by
    rw [hBB]
    exact ⟨by rw [Nat.zero_mul]; exact R1.out.up hB2, hT2.congr (fun i j _ _ => (MT_zero _ i j).symm), Up.refl _ _ _, hB2.size⟩
  have Q2 : Hid (w2.heap[w.heap.size]? = some (.cells #[.int .i64 0, .int .i64 0, .int .i64 0, .slice none 0 0, .slice none 0 0, .slice none 0 0] 30 (0, 0)) ∧ w.grownBy w2 (some b) ∧ w.heap.size < BB ∧ w.heap.size ≠ b) := by
    obtain ⟨a1, a2, a3, a4⟩ := Q1.out
    rw [hBB]
    exact ⟨(hB2.block _ a3).trans a1, grown_below a2 hB2, a3, a4⟩
  clear HS Q1 R1 hT2 hB2 hBB
  go_wp2
  go_loopw [14] (fun i wr => ∃ (a : Nat), a ≤ n ∧ i = .int .i64 a ∧ Hid (FS b g C T BB gc n gs (steps eK T S (a * n)) (MT (FA T S n) a 0) w2 wr)) (fun i _ => n - (intOf i).toNat)
  case atStart => exact ⟨0, by omega, rfl, K1⟩
  case round =>
    clear K1
    obtain ⟨a, ha, rfl, HC⟩ := hrel
    by_cases hal : a < n
    · have q1 : (a : Int) < (n : Int) := by omega
      have q2 : (0 : Int) ≤ (a : Int) := by omega
      have c0 := HC.out.tb.rowAt hal
      have HK0 : Hid (FS b g C T BB gc n gs (steps eK T S (a * n + 0)) (MT (FA T S n) a 0) w2 wr) := HC
      clear HC
      go_wp2
      clear c0
      go_loopw [20] (fun i wr2 => ∃ c : Nat, c ≤ n ∧ i = .int .i64 c ∧ Hid (FS b g C T BB gc n gs (steps eK T S (a * n + c)) (MT (FA T S n) a c) w2 wr2)) (fun i _ => n - (intOf i).toNat)
      case atStart => exact ⟨0, by omega, rfl, HK0⟩
      case round =>
        clear HK0
        obtain ⟨c, hc, rfl, HK⟩ := hrel
        by_cases hcn : c < n
        · have q3 : (c : Int) < (n : Int) := by omega
          have q4 : (0 : Int) ≤ (c : Int) := by omega
          have FN : Hid (∀ w1, RS b g C T (adv (steps eK T S (a * n + c)) (eE (tk T (steps eK T S (a * n + c)).p))) w1 → wr.grownBy w1 (some b) → FS b g C T BB gc n gs (steps eK T S (a * n + c + 1)) (MT (FA T S n) a c) w2 w1) := fun w1 h1 h2 => HK.out.call h1 h2
          have HX := Lib.hid (entry_s b g C T _ _ HK.out.rd)
          have HV : (tk T (steps eK T S (a * n + c)).p).num = FA T S n a c := rfl
          rw [HV] at HX
          clear HK HV
          go_wp2_with fail
          refine HX.out.mono ?_
          rintro r w1 ⟨rfl, h1, h2⟩
          have HN := Lib.hid (FN.out w1 h1 h2)
          have c5 := HN.out.tb.cellAt hal hcn
          have f5 := HN.out.tb.frozen hal c
          have HN2 := Lib.hid ((HN.out.store hal hcn (FA T S n a c)).congr (fun i j _ _ => MT_set _ a c i j))
          clear FN HX h1 h2 HN
          go_wp2
          go_roundw
          case rel => exact ⟨c + 1, by omega, by go_num, HN2⟩
          case measure => simp [intOf]; omega
        · obtain rfl : c = n := by omega
          have HN : Hid (FS b g C T BB gc c gs (steps eK T S ((a + 1) * c)) (MT (FA T S c) (a + 1) 0) w2 wr) := fs_row HK.out (by rw [Nat.succ_mul])
          clear HK
          go_wp2
          go_roundw
          case rel => exact ⟨a + 1, by omega, by go_num, HN⟩
          case measure => simp [intOf]; omega
    · obtain rfl : a = n := by omega
      have FN := Lib.hid (HC.out.congr (fun i j hi _ => MT_all _ a i j hi))
      obtain ⟨q0, hw2, hqB, hqb⟩ := Q2.out
      have hq := (FN.out.up.block _ hqB hqb).trans q0
      have HO := Lib.hid (out_set FN.out hq hqB (Nat.le_refl _) hw2 (.int .i64 2) (.int .i64 a) (.int .i64 0) (.slice none 0 0) (.slice none 0 0) (.slice (some ⟨gc, 0, none⟩) a a))
      obtain ⟨z0, z1, z2, z3, z4, z5⟩ := ip.box6 hq
      have zf := ip.fr6 hq
      have f0 := zf 0; have f1 := zf 1; have f2 := zf 2; have f3 := zf 3; have f4 := zf 4; have f5 := zf 5
      have hq6 := ip.six hq (.int .i64 2) (.int .i64 a) (.int .i64 0) (.slice none 0 0) (.slice none 0 0) (.slice (some ⟨gc, 0, none⟩) a a)
      have R6 := Lib.hid (ip.box6 hq6)
      clear HC FN Q2 q0 hw2 hqB hqb hq zf hq6
      go_wp2
      obtain ⟨r0, r1, r2, r3, r4, r5⟩ := R6.out
      exact bodyPost_ret (v := .agg #[.int .i64 2, .int .i64 a, .int .i64 0, .slice none 0 0, .slice none 0 0, .slice (some ⟨gc, 0, none⟩) a a]) (by simp [results, Tryz.results42, go_sem, r0, r1, r2, r3, r4, r5]) rfl ⟨gc, gs, rfl, HO.out⟩
end Go.Proofs.YtegieoajjfodcaaGreatDoor

/-
  What New, none and fresh answer.
-/
import Derived.Test.YtpmkpmenjaekmaaIcC
namespace Go.Proofs.Ytpmkpmenjaekmaa
open Go.RowKit Go.MuLone
set_option linter.unusedVariables false
theorem none_any (w : World) : Calls Try.prog 8 #[] w fun e w' => e = .returned (.pointer none) ∧ w = w' := by
  go_enter Try.func8, Try.ntmps8
  go_wp2
  go_ret
  exact ⟨rfl, rfl⟩
theorem new_nil (x y : Int) (v : Value) (z : Int) (w : World) : Calls Try.prog 7 #[.pointer none, .int .i64 x, .int .i64 y, v, .int .i64 z] w fun e w' => e = .returned (.tuple #[.pointer none, .int .i64 1]) ∧ w = w' := by
  go_enter Try.func7, Try.ntmps7
  go_wp2
  go_ret2
  exact ⟨rfl, rfl⟩
theorem fine_yes {x : Int} (h : fineB x = true) : 0 ≤ x ∧ x ≤ 1125899906842624 := by unfold fineB at h; simpa using h
theorem fine_of {x : Int} (h : 0 ≤ x ∧ x ≤ 1125899906842624) : fineB x = true := by unfold fineB; simpa using h
theorem fine_not {x : Int} (h : ¬ (0 ≤ x ∧ x ≤ 1125899906842624)) : fineB x = false := by unfold fineB; exact decide_eq_false h
set_option maxHeartbeats 2000000 in
theorem new_bad (g b : Nat) (l : List Int) (s k c o n : Int) (d : Bool) (x y : Int) (v : Value) (z : Int) (hl : l.length ≤ 1000) (hbad : x < 0 ∨ (l.length : Int) ≤ x ∨ y < 1 ∨ 16 < y ∨ fineB z = false) (w : World) (h : MB 0 g b l s k c o n d w) :
    Calls Try.prog 7 #[.pointer (some ⟨g, 0, none⟩), .int .i64 x, .int .i64 y, v, .int .i64 z] w fun e w' => e = .returned (.tuple #[.pointer none, .int .i64 1]) ∧ w = w' := by
  have S := Lib.hid (size_any 0 g b l s k c o n d w h)
  have P := Lib.hid (fun W => possible_any z W)
  clear h
  generalize l.length = m at *
  by_cases h1 : x < 0
  · clear hbad
    go_enter Try.func7, Try.ntmps7
    go_wp2
    go_ret2
    exact ⟨rfl, rfl⟩
  have d1 : decide (x < 0) = false := decide_eq_false h1
  by_cases h2 : (m : Int) ≤ x
  · clear hbad
    have d2 : decide ((m : Int) ≤ x) = true := decide_eq_true h2
    go_enter Try.func7, Try.ntmps7
    go_wp2_with fail
    refine S.out.mono ?_; rintro e w1 ⟨rfl, rfl⟩
    go_wp2
    go_ret2
    exact ⟨rfl, rfl⟩
  have d2 : decide ((m : Int) ≤ x) = false := decide_eq_false h2
  by_cases h3 : y < 1
  · clear hbad
    go_enter Try.func7, Try.ntmps7
    go_wp2_with fail
    refine S.out.mono ?_; rintro e w1 ⟨rfl, rfl⟩
    go_wp2
    go_ret2
    exact ⟨rfl, rfl⟩
  have d3 : decide (y < 1) = false := decide_eq_false h3
  by_cases h4 : 16 < y
  · clear hbad
    go_enter Try.func7, Try.ntmps7
    go_wp2_with fail
    refine S.out.mono ?_; rintro e w1 ⟨rfl, rfl⟩
    go_wp2
    go_ret2
    exact ⟨rfl, rfl⟩
  have d4 : decide (16 < y) = false := decide_eq_false h4
  have h5 : fineB z = false := by
    rcases hbad with h | h | h | h | h
    · omega
    · omega
    · omega
    · omega
    · exact h
  rw [h5] at P
  clear hbad
  go_enter Try.func7, Try.ntmps7
  go_wp2_with fail
  refine S.out.mono ?_; rintro e w1 ⟨rfl, rfl⟩
  go_wp2_with fail
  refine (P.out _).mono ?_; rintro e w1 ⟨rfl, rfl⟩
  go_wp2
  go_ret2
  exact ⟨rfl, rfl⟩
section
variable {q g b kb ia n : Nat} {vs : Nat → Value} {l : List Int} {s : Int} {w w1 : World}
theorem setS (y : Int) (s0 : 0 ≤ s) (s1 : s ≤ 1000000) (h : Si q g b kb ia n vs l s w) :
    Calls Try.prog 25 #[.pointer (some ⟨g, 0, none⟩), .int .i64 ia, .int .i64 y] w fun e w' => e = .returned (.int .i64 0) ∧ Si q g b kb ia n vs (l.set ia y) (s + 1) w' ∧ Tw [g, b] w w' := by
  obtain ⟨k, c, o, m, d, hm⟩ := h.mem
  refine (set_ok g b l s k c o m d ia (nth l ia) y ia rfl h.len rfl s0 s1 w hm).mono ?_
  intro e w1 hd
  exact h.did hd (by simp)
theorem Si.ak (h : Si q g b kb ia n vs l s w) (j : Nat) (v : Value) : Si q g b kb ia n (upk vs j v) l s (w.setCell ⟨kb, j, none⟩ v) ∧ Tw [kb] w (w.setCell ⟨kb, j, none⟩ v) := by
  have hm := h.ne
  have ht : Tw [kb] w (w.setCell ⟨kb, j, none⟩ v) := (Tw.refl [kb] w).st kb (.inl (by simp)) j v
  obtain ⟨C, hC, h2, h3⟩ := h.kep
  obtain ⟨k, c, o, m, d, hmm⟩ := h.mem
  refine ⟨⟨blk_tw h.box ht (by simp; omega), ⟨C.setIfInBounds j v, blk_set hC j v, by simpa using h2, fun i hi => ?_⟩, h.len, h.len2, h.n1, h.n16, k, c, o, m, d, ⟨blk_tw hmm.1 ht (by simp; omega), blk_tw hmm.2 ht (by simp; omega)⟩⟩, ht⟩
  unfold upk
  rw [Array.getElem?_setIfInBounds, h3 i hi]
  by_cases e : j = i
  · subst e; simp; omega
  · rw [if_neg e, if_neg (fun h => e h.symm)]
theorem info29 : (Try.prog.info? 29).map (fun i => (i.zero, i.size, i.bytes)) = some (some (.slice none 0 0), 1, 24) := by kernel_rfl
theorem mk_kept (n : Nat) (h : n ≤ 1000) : ∃ A : Array Value, A.size = n ∧ (∀ j, j < n → A[j]? = some (.slice none 0 0)) ∧ ∀ W : World, (Instr.makeSlice 67 (.int .i64 n) (.int .i64 n)).run Try.prog W = .ok (.slice (some ⟨W.heap.size, 0, none⟩) n n) (W.alloc (.cells A 29)) := by
  obtain ⟨i0, hi, hz0, hz1, hz2⟩ := info_parts info29
  have e : madeCells #[Value.slice none 0 0] n = (List.replicate n (Value.slice none 0 0)).toArray := by
    apply Array.toList_inj.1
    rw [toList_madeCells_one]
  refine ⟨(List.replicate n (Value.slice none 0 0)).toArray, by simp, fun j hj => by simp [hj], fun W => ?_⟩
  have h := run_make (P := Try.prog) W 67 29 i0 (.slice none 0 0) Try.underlying67 hi hz0 .i64 .i64 (n : Int) (n : Int) (by omega) (by omega) (by rw [hz2]; omega) (by omega)
  rw [hz1] at h
  simp only [Int.toNat_natCast, Nat.mul_one] at h
  rw [h, ← e]
  rfl
end
def NewSi (g b ia n : Nat) (l : List Int) (s : Int) (X : List Int) (w : World) (e : Ending) (w' : World) : Prop := ∃ q kb vs, e = .returned (.tuple #[.pointer (some ⟨q, 0, none⟩), .int .i64 0]) ∧ w.heap.size ≤ q ∧ w.heap.size ≤ kb ∧ Si q g b kb ia n vs l s w' ∧ Lst w.heap.size (vs 0) X w' ∧ Tw [g, b] w w'
set_option maxHeartbeats 8000000 in
theorem new_good (g b ia n cn B : Nat) (l : List Int) (s k c o m : Int) (d : Bool) (v : Value) (X : List Int) (hX : X.length ≤ 1000) (hi : ia < l.length) (hl : l.length ≤ 1000) (hn : 1 ≤ n) (hn2 : n ≤ 16) (hc : cn ≤ 1125899906842624) (s0 : 0 ≤ s) (s1 : s ≤ 100000) (w : World) (h : MB 0 g b l s k c o m d w) (hL : Lst B v X w) :
    Calls Try.prog 7 #[.pointer (some ⟨g, 0, none⟩), .int .i64 ia, .int .i64 n, v, .int .i64 cn] w (NewSi g b ia n (l.set ia ((cn : Int) * 16)) (s + 1) X w) := by
  obtain ⟨A, hA1, hA2, hmk⟩ := mk_kept n (by omega)
  have S := Lib.hid (size_any 0 g b l s k c o m d w h)
  have P := Lib.hid (fun W => possible_any cn W)
  rw [fine_of (by omega)] at P
  have d1 : decide ((ia : Int) < 0) = false := decide_eq_false (by omega)
  have d2 : decide ((l.length : Int) ≤ (ia : Int)) = false := decide_eq_false (by omega)
  have d3 : decide ((n : Int) < 1) = false := decide_eq_false (by omega)
  have d4 : decide (16 < (n : Int)) = false := decide_eq_false (by omega)
  have CL := Lib.hid (fun W (hW : Lst B v X W) => clone_l B v X W hW hX)
  have NU := Lib.hid (fun W => number_any cn 0 hc (by omega) W)
  rw [show ((0 : Nat) : Int) = 0 from rfl, Int.add_zero] at NU
  have ST := Lib.hid (fun q kb vs W (hW : Si q g b kb ia n vs l s W) => setS ((cn : Int) * 16) s0 (by omega) hW)
  have F0 : Hid (∀ W1, W1 = w.alloc (.cells A 29) → Si W1.heap.size g b w.heap.size ia n (fun _ => .slice none 0 0) l s (W1.alloc (.cells #[.pointer (some ⟨g, 0, none⟩), .int .i64 ia, .slice (some ⟨w.heap.size, 0, none⟩) n n] 69)) ∧ Lst B v X (W1.alloc (.cells #[.pointer (some ⟨g, 0, none⟩), .int .i64 ia, .slice (some ⟨w.heap.size, 0, none⟩) n n] 69)) ∧ Below w.heap.size w (W1.alloc (.cells #[.pointer (some ⟨g, 0, none⟩), .int .i64 ia, .slice (some ⟨w.heap.size, 0, none⟩) n n] 69))) := fun W1 hW => by
    subst hW
    have b1 := bl_al (Below.refl _ w) (.cells A 29)
    have b2 := bl_al b1 (.cells #[.pointer (some ⟨g, 0, none⟩), .int .i64 ia, .slice (some ⟨w.heap.size, 0, none⟩) n n] 69)
    exact ⟨⟨heap_alloc_new _ _, ⟨A, blk_al (heap_alloc_new _ _) _, hA1, hA2⟩, hi, hl, hn, hn2, k, c, o, m, d, h.keep b2⟩, hL.up b2, b2⟩
  have n0 : (0 : Int) < (n : Int) := by omega
  have n0n : 0 < n := hn
  have hLB := Lib.hid (lt_hp h.2)
  clear hA1 hA2 hl h hL hX
  generalize (cn : Int) * 16 = N at *
  generalize l.set ia N = l2 at *
  go_enter Try.func7, Try.ntmps7
  go_wp2_with fail
  refine S.out.mono ?_; rintro e w1 ⟨rfl, rfl⟩
  clear S
  go_wp2_with fail
  refine (P.out _).mono ?_; rintro e w1 ⟨rfl, rfl⟩
  clear P
  go_wp2_with fail
  obtain ⟨f1, fl, fb⟩ := F0.out _ rfl
  rw [show (w.alloc (.cells A 29)).heap.size = w.heap.size + 1 by simp] at f1
  have HQ : Hid (w.heap.size ≤ w.heap.size + 1 ∧ w.heap.size ≤ w.heap.size) := Lib.hid (by omega)
  generalize hw2 : (w.alloc (.cells A 29)).alloc _ = w2 at *
  have F1 := Lib.hid f1.dr
  have FL := Lib.hid (show Lst B v X w2.drew from fl)
  have FB := Lib.hid fb.drew
  obtain ⟨q0, q1, q2⟩ := f1.cells
  have hne := f1.ne.2.2.1
  obtain ⟨k0, k1⟩ := f1.kc 0 (by omega)
  have hsz := Lib.hid fb.size
  clear F0 hw2 f1 fl fb q0 q1
  generalize hq : w.heap.size + 1 = q at *
  generalize hk : w.heap.size = kb at *
  have FK := Lib.hid hk
  clear hq
  go_region_held3 (fun w' => w'.cell? ⟨q, 2, none⟩ = some (.slice (some ⟨kb, 0, none⟩) n n)) (first | exact q2 | simp [go_sem, *])
    (first | (go_at_call 24; (with_reducible refine (CL.out _ FL.out).mono ?_); rintro e w3 ⟨v', rfl, f1, f2⟩; obtain ⟨av, nv, cv, rfl⟩ := f1.form; have f3 := F1.out.keep (Tw.of (S := []) f2) (by simp) (by simp) (by simp) (by simp); have FV := Lib.hid (f1.mono (show kb ≤ w2.drew.heap.size from hsz.out)); have FB := Lib.hid (FB.out.trans (f2.mono hsz.out)); obtain ⟨q0, q1, q2⟩ := f3.cells; obtain ⟨k0, k1⟩ := f3.kc 0 (by omega); have F1 := Lib.hid f3; clear f1 f2 f3 q0 q1))
  all_goals
    have FF := F1.out.ak 0 (.slice av nv cv)
    have FV := Lib.hid (FV.out.keep FF.2 (fun i hi => by
      simp at hi
      subst hi
      obtain ⟨C, hC, _⟩ := F1.out.kep
      exact .inr ⟨_, _, hC, by decide⟩))
    have F2 := Lib.hid FF.1
    have FT := Lib.hid (FB.out.setCell (p := ⟨kb, 0, none⟩) (Nat.le_refl kb) (.slice av nv cv))
    clear FF F1 FB k0 k1 q2 CL FL
    generalize (w3.setCell ⟨kb, 0, none⟩ (.slice av nv cv)) = w4 at *
    have E0 : Hid (upk (fun _ => .slice none 0 0) 0 (.slice av nv cv) 0 = .slice av nv cv) := Lib.hid rfl
    generalize upk (fun _ => .slice none 0 0) 0 (.slice av nv cv) = vs at *
    go_wp2_with fail
    refine (NU.out _).mono ?_; rintro e w5 ⟨rfl, rfl⟩
    clear NU
    go_wp2_with fail
    refine (ST.out q kb vs _ F2.out).mono ?_; rintro e w5 ⟨rfl, f1, f2⟩
    have HN : Hid (NewSi g b ia n l2 (s + 1) X w (.returned (.tuple #[.pointer (some ⟨q, 0, none⟩), .int .i64 0])) w5) := by
      have hg := F2.out.ne
      have hk := FK.out
      have hq := HQ.out
      refine ⟨q, kb, vs, rfl, by omega, by omega, f1, ?_, (Tw.of (S := [g, b]) (by rw [hk]; exact FT.out)).trans f2⟩
      rw [E0.out, hk]
      obtain ⟨kk, c, o, m, d, hm⟩ := F2.out.mem
      refine FV.out.keep f2 (fun i hi => ?_)
      simp at hi
      rcases hi with rfl | rfl
      · exact .inr ⟨_, _, hm.1, by decide⟩
      · exact .inl (by have := hLB.out; omega)
    clear f1 f2 F2 FV FT ST E0
    go_wp2
    go_ret2
    exact HN.out
end Go.Proofs.Ytpmkpmenjaekmaa

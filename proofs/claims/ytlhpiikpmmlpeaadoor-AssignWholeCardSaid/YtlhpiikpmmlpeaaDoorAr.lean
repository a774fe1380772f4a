/-
  What slices.Repeat answers of one number, so many times.
-/
import Derived.Test.YtlhpiikpmmlpeaaDoorAn
import Derived.Test.YtlhpiikpmmlpeaaDoorMul
import Derived.Laws.CopyOwn
import Derived.Deep.RegionLaw
namespace Go.Proofs.YtlhpiikpmmlpeaaDoor
open Go.RowKit
set_option linter.unusedVariables false
theorem own_blk {B g n : Nat} {l : List Int} {w0 w : World} (h : od.Own B g n n l w0 w) : w.heap[g]? = some (.cells (l.map (Value.int .i64)).toArray 3 (0, 0)) := by
  obtain ⟨h1, h2, ⟨h3, h4⟩, _⟩ := h
  rcases h4 with ⟨e, _⟩ | ⟨g', cap', cur, e, hg, hh, _, _, hs, ht⟩
  · cases e
  · injection e with e1 e2 e3
    injection e1 with e1
    injection e1 with e1 _ _
    subst e1 e3
    rw [hh]
    have : cur.toList.take n = cur.toList := List.take_of_length_le (by rw [Array.length_toList, hs]; omega)
    rw [Nat.mul_one, this] at ht
    rw [← ht]
theorem own_mk {B g n : Nat} {l : List Int} {w0 w : World} (hl : l.length = n) (hB : B ≤ g) (hm : n ≤ 1000) (hh : w.heap[g]? = some (.cells (l.map (Value.int .i64)).toArray 3 (0, 0))) (hb : Below B w0 w) : od.Own B g n n l w0 w := by
  refine ⟨hl, hB, ⟨by simp [hl], .inr ⟨g, n, _, rfl, hB, hh, Nat.le_refl _, by unfold maxLen; omega, by simp [hl], ?_⟩⟩, hb⟩
  exact List.take_of_length_le (by simp [hl])
def rep (x : Int) (n k : Nat) : List Int := List.replicate k x ++ List.replicate (n - k) 0
theorem rep_len {x : Int} {n k : Nat} (h : k ≤ n) : (rep x n k).length = n := by unfold rep; simp; omega
theorem rep_zero (x : Int) (n : Nat) : rep x n 0 = List.replicate n 0 := by unfold rep; simp
theorem rep_all (x : Int) (n : Nat) : rep x n n = List.replicate n x := by unfold rep; simp
/-- some of the numbers copied behind those that are there -/
theorem rep_splice (x : Int) {n k m : Nat} (h : k + m ≤ n) : splice ((rep x n k).map (Value.int .i64)) k (List.replicate m (Value.int .i64 x)) = (rep x n (k + m)).map (Value.int .i64) := by
  unfold splice rep
  rw [List.map_append, List.map_append, List.map_replicate, List.map_replicate, List.map_replicate, List.map_replicate]
  have e1 : (List.replicate k (Value.int .i64 x) ++ List.replicate (n - k) (Value.int .i64 0)).take k = List.replicate k (Value.int .i64 x) := by
    rw [List.take_append_of_le_length (by simp), List.take_of_length_le (by simp)]
  have e2 : (List.replicate k (Value.int .i64 x) ++ List.replicate (n - k) (Value.int .i64 0)).drop (k + (List.replicate m (Value.int .i64 x)).length) = List.replicate (n - (k + m)) (Value.int .i64 0) := by
    rw [List.length_replicate, List.drop_append, List.drop_of_length_le (by simp), List.length_replicate, List.nil_append, List.drop_replicate]
    congr 1
    omega
  rw [e1, e2, ← List.append_assoc, List.replicate_append_replicate]
theorem mul_one (n : Nat) (hn : n ≤ 1000) (w : World) : Calls Tryd.prog 97 #[.int .u64 1, .int .u64 n] w fun e w' => e = .returned (.tuple #[.int .u64 0, .int .u64 n]) ∧ w = w' := by
  have H := Lib.hid (md.mul_small 1 n n (by decide) (by decide) (by omega) (by omega) (by omega) (by omega) (by omega) w)
  go_enter Tryd.func97, Tryd.ntmps97
  go_wp2_with fail
  refine H.out.mono ?_; rintro e w1 ⟨rfl, rfl⟩
  go_wp2
  first
    | exact ⟨rfl, rfl⟩
    | (go_ret2; exact ⟨rfl, rfl⟩)
set_option maxRecDepth 100000 in
set_option maxHeartbeats 4000000 in
theorem repeat_any (x : Int) (n : Nat) (h1 : 1 ≤ n) (hn : n ≤ 1000) (g0 : Nat) (w : World) (hx : w.cell? ⟨g0, 0, none⟩ = some (.int .i64 x)) (hg : g0 < w.heap.size) :
    Calls Tryd.prog 85 #[.slice (some ⟨g0, 0, none⟩) 1 1, .int .i64 n] w fun e w' => ∃ g, e = .returned (.slice (some ⟨g, 0, none⟩) n n) ∧ od.Own w.heap.size g n n (List.replicate n x) w w' := by
  obtain ⟨i0, hi, hz0, hz1, hz2⟩ := info_parts info3
  have HM := Lib.hid (fun W => mul_one n hn W)
  have HB := Lib.hid (Below.refl w.heap.size w)
  have p1 : ¬ (n : Int) < 0 := by omega
  have p2 : IntKind.u64.wrap (n : Int) = (n : Int) := by rw [IntKind.wrap_u64]; omega
  have p3 : IntKind.i64.wrap (n : Int) = (n : Int) := by rw [IntKind.wrap_i64]; omega
  have p4 : ¬ (9223372036854775807 : Int) < (n : Int) := by omega
  go_enter Tryd.func85, Tryd.ntmps85
  go_wp2_with fail
  refine (HM.out _).mono ?_; rintro e w1 ⟨rfl, rfl⟩
  go_wp2_with (at_make; refine wpList_make_full _ rfl _ _ 22 rfl w.heap.size 3 i0 (.int .i64 0) 1 Tryd.underlying22 hi hz0 hz1 .i64 .i64 _ _ n rfl rfl rfl rfl (by rw [hz2]; omega) (by unfold maxLen; omega) HB.out.size ?_)
  intro w2 hown hgrow
  have hb2 : Below w.heap.size w w2 := HB.out.grown hgrow HB.out.size (fun j hj => by cases hj)
  have A0 : od.Own w.heap.size w.heap.size n n (rep x n 0) w w2 := ⟨rep_len (by omega), Nat.le_refl _, by rw [rep_zero, List.map_replicate, ← toList_madeCells_one]; exact hown, hb2⟩
  have X2 := Lib.hid (show w2.cell? ⟨g0, 0, none⟩ = some (.int .i64 x) from (hb2.cell (p := ⟨g0, 0, none⟩) hg).trans hx)
  have Q2 := own_blk A0
  have HB2 := Lib.hid hb2
  have HN := Lib.hid hn
  clear hown hgrow A0 hx hb2
  have hsz3 : (Tryd.prog.info? 3).map (·.size) = some 1 := by rw [hi]; simp [hz1]
  have HMK : Hid (∀ (g : Nat) (w' : World), w.heap.size ≤ g → w'.heap[g]? = some (.cells ((rep x n n).map (Value.int .i64)).toArray 3 (0, 0)) → Below w.heap.size w w' → od.Own w.heap.size g n n (List.replicate n x) w w') := fun g w' h2 h3 h4 => by
    rw [← rep_all]
    exact own_mk (rep_len (Nat.le_refl _)) h2 HN.out h3 h4
  obtain ⟨gB, hgB⟩ : ∃ gB, gB = w.heap.size := ⟨_, rfl⟩
  have HG := Lib.hid hgB
  rw [← hgB] at Q2
  go_wp2_with (with_reducible refine wpList_copy_splice rfl _ _ 22 22 rfl 3 Tryd.underlying22 hsz3 (some ⟨w.heap.size, 0, none⟩) (some ⟨g0, 0, none⟩) n n 1 1 rfl rfl w.heap.size 0 ((rep x n 0).map (Value.int .i64)) 3 (by rw [← hgB]; exact Q2) [.int .i64 x] (by simp [Nat.min_def]; omega) (fun _ => ⟨rfl, ⟨g0, 0, none⟩, rfl, fun j v hj => by cases j with | zero => (simp at hj; subst hj; rw [kn.add_at]; exact X2.out) | succ j => simp at hj⟩) (by simp [rep]; omega) (by simp [Value.oneCell']) w.heap.size w HB2.out (Nat.le_refl _) ?_)
  intro w3 hw3 hb3
  have e3 := rep_splice x (n := n) (k := 0) (m := 1) (by omega)
  have Q3 : Hid (w3.heap[gB]? = some (.cells ((rep x n 1).map (Value.int .i64)).toArray 3 (0, 0))) := by
    have q := hw3.out
    rw [show [Value.int .i64 x] = List.replicate 1 (Value.int .i64 x) from rfl, e3, ← hgB] at q
    exact Lib.hid q
  have B3 := Lib.hid hb3
  clear hw3 hb3 e3 Q2 HB2 X2 HM HB
  rw [← hgB] at B3 HMK ⊢
  clear hgB
  go_wp2
  go_loopw [8] (fun i wr => ∃ k : Nat, 1 ≤ k ∧ k ≤ n ∧ i = .int .i64 (k : Int) ∧ Hid (wr.heap[gB]? = some (.cells ((rep x n k).map (Value.int .i64)).toArray 3 (0, 0))) ∧ Hid (Below gB w wr)) (fun i _ => n - (intOf i).toNat)
  case atStart => exact ⟨1, Nat.le_refl _, h1, rfl, Q3, B3⟩
  case round =>
    clear Q3 B3
    obtain ⟨k, k1, hk, rfl, QK, BK⟩ := hrel
    by_cases hlt : k < n
    · obtain ⟨m, hm⟩ : ∃ m, m = Nat.min k (n - k) := ⟨_, rfl⟩
      have hm1 : 1 ≤ m := by rw [hm]; simp [Nat.min_def]; split <;> omega
      have hm2 : k + m ≤ n := by rw [hm]; simp [Nat.min_def]; split <;> omega
      have e4 := Lib.hid (rep_splice x (n := n) (k := k) (m := m) hm2)
      have q1 : (k : Int) < (n : Int) := by omega
      have q2 : (0 : Int) ≤ (k : Int) := by omega
      have q5 : ¬ n = k := by omega
      have q3 : (k : Int) ≤ (n : Int) := by omega
      have q4 : (k : Int) + (m : Int) ≤ 9223372036854775807 := by omega
      have HMm := Lib.hid hm
      have SRC := Lib.hid (show ∀ W : World, W.heap[gB]? = some (.cells ((rep x n k).map (Value.int .i64)).toArray 3 (0, 0)) → ∀ j v, (List.replicate m (Value.int .i64 x))[j]? = some v → W.cell? ((⟨gB, 0, none⟩ : Addr).add j) = some v from fun W q j v hj => by
        have hjm : j < m := by
          rcases Nat.lt_or_ge j m with h | h
          · exact h
          · rw [List.getElem?_eq_none (by simp; exact h)] at hj; cases hj
        rw [List.getElem?_replicate, if_pos hjm] at hj
        cases hj
        rw [kn.add_at, Nat.zero_add, cell_of_row _ _ _ _ _ _ q]
        have hmk : j < k := by have := HMm.out; have h2 : k.min (n - k) ≤ k := Nat.min_le_left _ _; omega
        simp only [List.getElem?_toArray, List.getElem?_map]
        unfold rep
        rw [List.getElem?_append_left (by simp; exact hmk), List.getElem?_replicate, if_pos hmk]
        rfl)
      clear hm
      go_wp2
      go_region_held3 (fun _ => True) (trivial)
        (first
          | (refine step_copy_splice (by rfl) _ _ 22 22 (by rfl) 3 Tryd.underlying22 hsz3 (some ⟨gB, k, none⟩) (some ⟨gB, 0, none⟩) (n - k) (n - k) k n (by rfl) (by rfl) gB k ((rep x n k).map (Value.int .i64)) 3 QK.out (List.replicate m (Value.int .i64 x)) (by rw [List.length_replicate, HMm.out]) (fun _ => ⟨rfl, ⟨gB, 0, none⟩, rfl, SRC.out _ QK.out⟩) (by rw [List.length_replicate, List.length_map, rep_len (by omega)]; exact hm2) (by intro v hv; rw [List.eq_of_mem_replicate hv]; rfl) gB w BK.out.drew (Nat.le_refl _) ?_; intro w5 hw5 hb5; simp only [List.length_replicate] at hw5 ⊢))
      have Q5 : Hid (w5.heap[gB]? = some (.cells ((rep x n (k + m)).map (Value.int .i64)).toArray 3 (0, 0))) := by
        have q := hw5.out
        rw [e4.out] at q
        exact Lib.hid q
      have B5 := Lib.hid hb5
      have hw : IntKind.i64.wrap ((k : Int) + (m : Int)) = (k : Int) + (m : Int) := by rw [IntKind.wrap_i64]; omega
      clear hw5 hb5 QK BK SRC e4
      go_wp2
      go_roundw
      case rel => exact ⟨k + m, by omega, by omega, by go_num, Q5, B5⟩
      case measure => simp [intOf]; omega
    · obtain rfl : n = k := by omega
      have q1 : ¬ (n : Int) < (n : Int) := by omega
      have HE := Lib.hid (HMK.out gB wr (Nat.le_refl _) QK.out BK.out)
      go_wp2
      first
        | exact ⟨gB, rfl, by rw [← HG.out]; exact HE.out⟩
        | (go_ret; exact ⟨gB, rfl, by rw [← HG.out]; exact HE.out⟩)
end Go.Proofs.YtlhpiikpmmlpeaaDoor

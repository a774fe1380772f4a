/-
  The reference's Once for five lists, whoever holds a slot.
-/
import Derived.Test.YtaihmkflhapjeaaPoJ
namespace Go.Proofs.Ytaihmkflhapjeaa
open Go.RowKit Go.MuLone
set_option linter.unusedVariables false
/-- the reference's Holder: any numbers -/
def RHM (q g n cap : Nat) (hvv : Nat → Int) (w : World) : Prop := w.heap[q]? = some (.cells #[.slice (some ⟨g, 0, none⟩) n cap] 54 (0, 0)) ∧ n ≤ cap ∧ cap ≤ 9223372036854775807 ∧ (∃ cur, w.heap[g]? = some (.cells cur 3 (0, 0))) ∧ ∀ j, j < n → w.cell? ⟨g, j, none⟩ = some (.int .i64 (hvv j))
theorem RHM.of {q g n cap : Nat} {hd : Nat → Bool} {w : World} (h : RH q g n cap hd w) : RHM q g n cap (fun j => hv (hd j)) w := h
theorem RHM.keep {q g n cap : Nat} {hvv : Nat → Int} {w w1 : World} {S : List Nat} (h : RHM q g n cap hvv w) (k : Tw S w w1) (hq : q ∉ S) (hg : g ∉ S) : RHM q g n cap hvv w1 := by
  obtain ⟨h1, h2, h3, ⟨cur, h4⟩, h5⟩ := h
  exact ⟨blk_tw h1 k hq, h2, h3, ⟨cur, blk_tw h4 k hg⟩, fun j hj => (cell_tw k (lt_hp h4) hg j).trans (h5 j hj)⟩
theorem RHM.up {q g n cap : Nat} {hvv : Nat → Int} {w w1 : World} (h : RHM q g n cap hvv w) (k : Below w.heap.size w w1) : RHM q g n cap hvv w1 := h.keep (Tw.of (S := []) k) (by simp) (by simp)
theorem RHM.ne {q g n cap : Nat} {hvv : Nat → Int} {w : World} (h : RHM q g n cap hvv w) : q ≠ g := by
  obtain ⟨h1, h2, h3, ⟨cur, h4⟩, h5⟩ := h
  intro e
  subst e
  rw [h1] at h4
  injection h4 with h4
  injection h4 with _ h4 _
  exact absurd h4 (by decide)
theorem RHM.cells {q g n cap : Nat} {hvv : Nat → Int} {w : World} (h : RHM q g n cap hvv w) : w.cell? ⟨q, 0, none⟩ = some (.slice (some ⟨g, 0, none⟩) n cap) ∧ ∀ j, w.frozen? ⟨g, j, none⟩ = false := by
  obtain ⟨h1, h2, h3, ⟨cur, h4⟩, h5⟩ := h
  exact ⟨(cell_of_row w q 0 _ 54 _ h1).trans rfl, fun j => by simp [World.frozen?, h4]⟩
theorem RHM.st {q g n cap : Nat} {hvv : Nat → Int} {w : World} (h : RHM q g n cap hvv w) (m : Nat) (hm : m < n) (v : Int) : RHM q g n cap (upf hvv m v) (w.setCell ⟨g, m, none⟩ (.int .i64 v)) := by
  have hne := h.ne
  obtain ⟨h1, h2, h3, ⟨cur, h4⟩, h5⟩ := h
  refine ⟨blk_oth h1 hne m _, h2, h3, ⟨_, blk_set h4 m (.int .i64 v)⟩, fun j hj => ?_⟩
  have hc := h5 j hj
  by_cases e : j = m
  · subst e
    have hlt : j < cur.size := by
      simp [World.cell?, h4] at hc
      exact (Array.getElem?_eq_some_iff.mp hc).1
    rw [upf_at]
    simp [World.cell?, blk_set h4 j (.int .i64 v), hlt]
  · have e' : ¬ m = j := fun h => e h.symm
    rw [upf_ne _ _ _ _ e, ← hc]
    simp [World.cell?, blk_set h4 m (.int .i64 v), h4, e']
def pres (Ls : Nat → List Nat) : Nat → List Nat
  | 0 => []
  | k + 1 => pres Ls k ++ Ls k
theorem pres_mem (Ls : Nat → List Nat) (m : Nat) : ∀ n k, k < n → m ∈ Ls k → m ∈ pres Ls n
  | n + 1, k, hk, hm => by
    by_cases e : k = n
    · subst e; exact List.mem_append_right _ hm
    · exact List.mem_append_left _ (pres_mem Ls m n k (by omega) hm)
theorem pres_le (Ls : Nat → List Nat) {a b : Nat} (h : a ≤ b) : (pres Ls a).length ≤ (pres Ls b).length := by
  induction b with
  | zero =>
    obtain rfl : a = 0 := by omega
    exact Nat.le_refl _
  | succ b ih =>
    by_cases e : a = b + 1
    · subst e; exact Nat.le_refl _
    · have := ih (by omega)
      simp only [pres, List.length_append]
      omega
set_option maxHeartbeats 8000000 in
theorem once5 (q g n cap z : Nat) (Ls : Nat → List Nat) (xs : Nat → Option Addr) (cs : Nat → Nat) (hvv : Nat → Int) (h0 : 1 ≤ n) (hn : n ≤ 1000) (hl : (pres Ls 5).length ≤ 1000) (w : World) (hR : RHM q g n cap hvv w) (hzl : z < w.heap.size)
    (hz : ∀ k, k < 5 → w.cell? ⟨z, k, none⟩ = some (.slice (xs k) (Ls k).length (cs k))) (hi5 : ∀ k, k < 5 → Ints w (xs k) (ints (Ls k))) (hf : ∀ m, m ∈ pres Ls 5 → m < n) (hnd : (pres Ls 5).Nodup) (hcm : ∀ j, j < n → (hvv j = -1 ↔ j ∈ pres Ls 5)) :
    Calls Try.prog 24 #[.pointer (some ⟨q, 0, none⟩), .slice (some ⟨z, 0, none⟩) 5 5] w fun e w' => e = .returned (.bool true) ∧ Below w.heap.size w w' := by
  have FK : Hid (∀ k, k < 5 → ∃ (x : Option Addr) (c : Nat) (L : List Nat), (∀ wr, Below w.heap.size w wr → wr.cell? ⟨z, k, none⟩ = some (.slice x L.length c)) ∧ (∀ wr, Below w.heap.size w wr → ∀ j, (hj : j < L.length) → ∃ b o, x = some ⟨b, o, none⟩ ∧ wr.cell? ⟨b, o + j, none⟩ = some (.int .i64 (L[j] : Nat))) ∧ pres Ls (k + 1) = pres Ls k ++ L ∧ (∀ m, m ∈ L → m < n) ∧ (pres Ls k ++ L).length ≤ 1000) := Lib.hid (fun k hk => by
    refine ⟨xs k, cs k, Ls k, fun wr hb => (hb.cell (p := ⟨z, k, none⟩) hzl).trans (hz k hk), fun wr hb j hj => ?_, rfl, fun m hm => hf m (pres_mem Ls m 5 k hk hm), ?_⟩
    · obtain ⟨b, o, e, hlt, hc⟩ := hi5 k hk j (by rw [ints_len]; exact hj)
      refine ⟨b, o, e, (hb.cell (p := ⟨b, o + j, none⟩) hlt).trans (hc.trans ?_)⟩
      rw [nth_at _ _ (by rw [ints_len]; exact hj)]
      simp [ints]
    · exact Nat.le_trans (pres_le Ls (show k + 1 ≤ 5 by omega)) hl)
  have FC : Hid (∀ j, j < n → (hvv j = -1 → nth (sn (pres Ls 5) n) j = 1) ∧ (¬ hvv j = -1 → nth (sn (pres Ls 5) n) j = 0)) := Lib.hid (fun j hj => by
    rw [sn_at _ _ _ hj]
    refine ⟨fun e => ?_, fun e => ?_⟩
    · have h1 : (pres Ls 5).count j = 1 := by
        have a := List.nodup_iff_count.mp hnd j
        have b := List.count_pos_iff.mpr ((hcm j hj).mp e)
        omega
      rw [h1]; rfl
    · have h1 : (pres Ls 5).count j = 0 := List.count_eq_zero.mpr (fun hm => e ((hcm j hj).mpr hm))
      rw [h1]; rfl)
  have FR : Hid (∀ wr, Below w.heap.size w wr → wr.cell? ⟨q, 0, none⟩ = some (.slice (some ⟨g, 0, none⟩) n cap) ∧ ∀ j, j < n → wr.cell? ⟨g, j, none⟩ = some (.int .i64 (hvv j))) := Lib.hid (fun wr hb => ⟨(hR.up hb).cells.1, (hR.up hb).2.2.2.2⟩)
  have hcap := hR.2.1
  have c0 := hR.cells.1
  clear hR hz hi5 hf hnd hcm hzl
  obtain ⟨i0, hi, hz0, hz1, hz2⟩ := info_parts info3
  go_enter Try.func24, Try.ntmps24
  go_wp2_with (at_make; refine wpList_make_full _ rfl _ _ 36 rfl w.heap.size 3 i0 (.int .i64 0) 1 Try.underlying36 hi hz0 hz1 .i64 .i64 _ _ n rfl rfl rfl rfl (by rw [hz2]; omega) (by unfold maxLen; omega) (Nat.le_refl _) ?_)
  intro w1 hown hgrow
  have hb := (Below.refl w.heap.size w).grown hgrow (Nat.le_refl _) (fun j hj => by cases hj)
  have O0 : Hid (Own w.heap.size w.heap.size n n (sn (pres Ls 0) n) w w1) := Lib.hid (by
    rw [show pres Ls 0 = [] from rfl, sn_nil]
    exact made_own' (Nat.le_refl _) hown hb)
  clear hown hgrow hb c0 hi hz0 hz1 hz2
  go_wp2_with fail
  go_loopw [6] (fun i wr => ∃ k : Nat, i = .int .i64 k ∧ k ≤ 5 ∧ Hid (Own w.heap.size w.heap.size n n (sn (pres Ls k) n) w wr)) (fun i _ => 5 - (intOf i).toNat)
  case atStart => exact ⟨0, rfl, by omega, O0⟩
  case round =>
    obtain ⟨k, rfl, hk, OW⟩ := hrel
    clear O0
    by_cases hlt : k < 5
    · have j1 : (k : Int) < 5 := by omega
      have hwk : IntKind.i64.wrap ((k : Int) + 1) = (k : Int) + 1 := IntWalk.i64_in _ (by omega)
      obtain ⟨x, c, L, F1, F2, F3, F4, F5⟩ := FK.out k hlt
      have F1 := Lib.hid F1
      have F2 := Lib.hid F2
      have F3 := Lib.hid F3
      have F4 := Lib.hid F4
      generalize pres Ls k = P at *
      have LL := Lib.hid (show L.length ≤ 1000 by simp at F5; omega)
      have F5 := Lib.hid F5
      go_wp2_with fail
      go_loopw [7] (fun i wr => ∃ b : Nat, i = .int .i64 b ∧ b ≤ L.length ∧ Hid (Own w.heap.size w.heap.size n n (sn (P ++ L.take b) n) w wr)) (fun i _ => L.length - (intOf i).toNat)
      case atStart => exact ⟨0, rfl, by omega, by simpa using OW⟩
      case round =>
        clear OW
        obtain ⟨b, rfl, hb, OW⟩ := hrel
        have e0 := F1.out _ OW.out.2.2.2
        by_cases hlb : b < L.length
        · obtain ⟨bb, oo, rfl, e1⟩ := F2.out _ OW.out.2.2.2 b hlb
          have hm : L[b] < n := F4.out _ (List.getElem_mem hlb)
          have HT : Hid (P ++ L.take (b + 1) = (P ++ L.take b) ++ [L[b]]) := Lib.hid (by rw [List.take_succ_eq_append_getElem hlb, List.append_assoc])
          have hwb : IntKind.i64.wrap ((b : Int) + 1) = (b : Int) + 1 := IntWalk.i64_in _ (by have := LL.out; omega)
          have i2 : (b : Int) < (L.length : Int) := by omega
          generalize L[b] = m at *
          have d1 : decide ((m : Int) < 0) = false := by simp
          have d2 : decide ((n : Int) ≤ (m : Int)) = false := by simp; omega
          have i3 : (m : Int) < (n : Int) := by omega
          have e2 := OW.out.cell m hm
          have f2 := OW.out.frozen m
          have OS := Lib.hid (OW.out.set m (nth (sn (P ++ L.take b) n) m + 1))
          rw [sn_set _ _ _ hm, ← HT.out] at OS
          have hy : 0 ≤ nth (sn (P ++ L.take b) n) m ∧ nth (sn (P ++ L.take b) n) m ≤ 1000 := by
            rw [sn_at _ _ _ hm]
            have h1 := List.count_le_length (a := m) (l := P ++ L.take b)
            have h3 : (P ++ L.take b).length ≤ 1000 := by have h2 := F5.out; simp at h2 ⊢; omega
            omega
          generalize nth (sn (P ++ L.take b) n) m = y at *
          have hwy : IntKind.i64.wrap (y + 1) = y + 1 := IntWalk.i64_in _ (by omega)
          clear OW HT F1 F2 F3 F4 F5 LL FK FC FR hy
          go_wp2
          go_roundw
          case rel => exact ⟨b + 1, by simp, by omega, OS⟩
          case measure => simp [intOf]; omega
        · obtain rfl : L.length = b := by omega
          have OS := OW
          rw [List.take_length, ← F3.out] at OS
          clear OW F2 F3 F4 F5 FK FC FR
          go_wp2
          go_roundw
          case rel => exact ⟨k + 1, by simp, by omega, OS⟩
          case measure => simp [intOf]; omega
    · obtain rfl : k = 5 := by omega
      have OW := Lib.hid (show Own w.heap.size w.heap.size n n (sn (pres Ls 5) n) w wr from OW.out)
      clear FK
      go_wp2_with fail
      go_loopw [9] (fun i wr => ∃ j : Nat, i = .int .i64 j ∧ j ≤ n ∧ Hid (Own w.heap.size w.heap.size n n (sn (pres Ls 5) n) w wr)) (fun i _ => n - (intOf i).toNat)
      case atStart => exact ⟨0, rfl, by omega, OW⟩
      case round =>
        clear OW
        obtain ⟨j, rfl, hj, OW⟩ := hrel
        by_cases hlj : j < n
        · have j1 : (j : Int) < (n : Int) := by omega
          have hwj : IntKind.i64.wrap ((j : Int) + 1) = (j : Int) + 1 := IntWalk.i64_in _ (by omega)
          have e0 := (FR.out _ OW.out.2.2.2).1
          have e1 := (FR.out _ OW.out.2.2.2).2 j hlj
          have e2 := OW.out.cell j hlj
          have hc := FC.out j hlj
          clear FR FC
          by_cases e : hvv j = -1
          · rw [e] at e1
            rw [hc.1 e] at e2
            clear hc
            go_wp2
            go_roundw
            case rel => exact ⟨j + 1, by simp, by omega, OW⟩
            case measure => simp [intOf]; omega
          · rw [hc.2 e] at e2
            generalize hvv j = v at *
            have b1 : (v == -1) = false := by simpa using e
            have b2 : (v != -1) = true := by simpa using e
            clear hc e
            go_wp2
            go_roundw
            case rel => exact ⟨j + 1, by simp, by omega, OW⟩
            case measure => simp [intOf]; omega
        · obtain rfl : j = n := by omega
          clear FR FC
          go_wp2
          go_ret
          exact ⟨rfl, OW.out.2.2.2⟩
end Go.Proofs.Ytaihmkflhapjeaa

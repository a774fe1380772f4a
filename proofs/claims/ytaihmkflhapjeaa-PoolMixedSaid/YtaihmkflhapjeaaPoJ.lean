/-
  The reference's Once: each slot that nobody holds lies in just one place.
-/
import Derived.Test.YtaihmkflhapjeaaPoI
namespace Go.Proofs.Ytaihmkflhapjeaa
open Go.RowKit Go.MuLone
set_option linter.unusedVariables false
/-- how often each number stands in a list -/
def sn (P : List Nat) (n : Nat) : List Int := (List.range n).map fun j => ((P.count j : Nat) : Int)
theorem sn_len (P : List Nat) (n : Nat) : (sn P n).length = n := by unfold sn; simp
theorem sn_at (P : List Nat) (n j : Nat) (h : j < n) : nth (sn P n) j = (P.count j : Nat) := by
  unfold nth sn
  simp [h]
theorem sn_nil (n : Nat) : sn [] n = List.replicate n 0 := by
  refine nth_ext _ _ (by rw [sn_len]; simp) (fun j hj => ?_)
  rw [sn_len] at hj
  rw [sn_at _ _ _ hj]
  unfold nth
  simp [hj]
theorem sn_set (P : List Nat) (n m : Nat) (h : m < n) : (sn P n).set m (nth (sn P n) m + 1) = sn (P ++ [m]) n := by
  refine nth_ext _ _ (by simp [sn_len]) (fun j hj => ?_)
  rw [List.length_set, sn_len] at hj
  rw [nth_set _ _ _ _ (by rw [sn_len]; exact h), sn_at _ _ _ hj, sn_at _ _ _ h]
  split
  · rename_i e
    subst e
    simp [List.count_append, sn_at _ _ _ hj]
  · rename_i e
    rw [sn_at _ _ _ hj]
    simp [List.count_append, e]
def pre (own st : List Nat) : Nat → List Nat
  | 0 => []
  | 1 => own
  | _ => own ++ st
set_option maxHeartbeats 8000000 in
theorem once_any (q g n cap z c1 c2 : Nat) (x1 x2 : Option Addr) (hd : Nat → Bool) (own st : List Nat) (h0 : 1 ≤ n) (hn : n ≤ 1000) (hl : own.length + st.length ≤ 1000) (w : World) (hR : RH q g n cap hd w)
    (hz : w.heap[z]? = some (.cells #[.slice x1 own.length c1, .slice x2 st.length c2] 36 (0, 0))) (i1 : Ints w x1 (ints own)) (i2 : Ints w x2 (ints st)) (hf : ∀ m, m ∈ own ++ st → m < n ∧ hd m = false) (hnd : (own ++ st).Nodup) (hcm : ∀ j, j < n → hd j = false → j ∈ own ++ st) :
    Calls Try.prog 24 #[.pointer (some ⟨q, 0, none⟩), .slice (some ⟨z, 0, none⟩) 2 2] w fun e w' => e = .returned (.bool true) ∧ Below w.heap.size w w' := by
  have FK : Hid (∀ k, k < 2 → ∃ (x : Option Addr) (c : Nat) (L : List Nat), (∀ wr, Below w.heap.size w wr → wr.cell? ⟨z, k, none⟩ = some (.slice x L.length c)) ∧ (∀ wr, Below w.heap.size w wr → ∀ j, (hj : j < L.length) → ∃ b o, x = some ⟨b, o, none⟩ ∧ wr.cell? ⟨b, o + j, none⟩ = some (.int .i64 (L[j] : Nat))) ∧ pre own st (k + 1) = pre own st k ++ L ∧ (∀ m, m ∈ L → m < n) ∧ (pre own st k ++ L).length ≤ 1000) := Lib.hid (fun k hk => by
    have hint : ∀ (x : Option Addr) (L : List Nat), Ints w x (ints L) → ∀ wr, Below w.heap.size w wr → ∀ j, (hj : j < L.length) → ∃ b o, x = some ⟨b, o, none⟩ ∧ wr.cell? ⟨b, o + j, none⟩ = some (.int .i64 (L[j] : Nat)) := fun x L hi wr hb j hj => by
      obtain ⟨b, o, e, hlt, hc⟩ := hi j (by rw [ints_len]; exact hj)
      refine ⟨b, o, e, (hb.cell (p := ⟨b, o + j, none⟩) hlt).trans (hc.trans ?_)⟩
      rw [nth_at _ _ (by rw [ints_len]; exact hj)]
      simp [ints]
    rcases (show k = 0 ∨ k = 1 by omega) with rfl | rfl
    · exact ⟨x1, c1, own, fun wr hb => (hb.cell (p := ⟨z, 0, none⟩) (lt_hp hz)).trans ((cell_of_row w z 0 _ 36 _ hz).trans rfl), hint x1 own i1, rfl, fun m hm => (hf m (by simp [hm])).1, by simp [pre]; omega⟩
    · exact ⟨x2, c2, st, fun wr hb => (hb.cell (p := ⟨z, 1, none⟩) (lt_hp hz)).trans ((cell_of_row w z 1 _ 36 _ hz).trans rfl), hint x2 st i2, rfl, fun m hm => (hf m (by simp [hm])).1, by simp [pre]; omega⟩)
  have FC : Hid (∀ j, j < n → nth (sn (own ++ st) n) j = if hd j then 0 else 1) := Lib.hid (fun j hj => by
    rw [sn_at _ _ _ hj]
    cases e : hd j
    · have h1 : (own ++ st).count j = 1 := by
        have a := List.nodup_iff_count.mp hnd j
        have b := List.count_pos_iff.mpr (hcm j hj e)
        omega
      rw [h1]; rfl
    · have h1 : (own ++ st).count j = 0 := List.count_eq_zero.mpr (fun hm => by rw [(hf j hm).2] at e; cases e)
      rw [h1]; rfl)
  have FR : Hid (∀ wr, Below w.heap.size w wr → wr.cell? ⟨q, 0, none⟩ = some (.slice (some ⟨g, 0, none⟩) n cap) ∧ ∀ j, j < n → wr.cell? ⟨g, j, none⟩ = some (.int .i64 (hv (hd j)))) := Lib.hid (fun wr hb => ⟨(hR.up hb).cells.1, (hR.up hb).2.2.2.2⟩)
  have hcap := hR.2.1
  have c0 := hR.cells.1
  clear hR hz i1 i2 hf hnd hcm
  obtain ⟨i0, hi, hz0, hz1, hz2⟩ := info_parts info3
  go_enter Try.func24, Try.ntmps24
  go_wp2_with (at_make; refine wpList_make_full _ rfl _ _ 36 rfl w.heap.size 3 i0 (.int .i64 0) 1 Try.underlying36 hi hz0 hz1 .i64 .i64 _ _ n rfl rfl rfl rfl (by rw [hz2]; omega) (by unfold maxLen; omega) (Nat.le_refl _) ?_)
  intro w1 hown hgrow
  have hb := (Below.refl w.heap.size w).grown hgrow (Nat.le_refl _) (fun j hj => by cases hj)
  have O0 : Hid (Own w.heap.size w.heap.size n n (sn (pre own st 0) n) w w1) := Lib.hid (by
    rw [show pre own st 0 = [] from rfl, sn_nil]
    exact made_own' (Nat.le_refl _) hown hb)
  clear hown hgrow hb c0 hi hz0 hz1 hz2
  go_wp2_with fail
  go_loopw [6] (fun i wr => ∃ k : Nat, i = .int .i64 k ∧ k ≤ 2 ∧ Hid (Own w.heap.size w.heap.size n n (sn (pre own st k) n) w wr)) (fun i _ => 2 - (intOf i).toNat)
  case atStart => exact ⟨0, rfl, by omega, O0⟩
  case round =>
    obtain ⟨k, rfl, hk, OW⟩ := hrel
    clear O0
    by_cases hlt : k < 2
    · have j1 : (k : Int) < 2 := by omega
      have hwk : IntKind.i64.wrap ((k : Int) + 1) = (k : Int) + 1 := IntWalk.i64_in _ (by omega)
      obtain ⟨x, c, L, F1, F2, F3, F4, F5⟩ := FK.out k hlt
      have F1 := Lib.hid F1
      have F2 := Lib.hid F2
      have F3 := Lib.hid F3
      have F4 := Lib.hid F4
      generalize pre own st k = P at *
      have LL := Lib.hid (show L.length ≤ 1000 by simp at F5; omega)
      have F5 := Lib.hid F5
      go_wp2_with fail
      go_loopw [7] (fun i wr => ∃ b : Nat, i = .int .i64 b ∧ b ≤ L.length ∧ Hid (Own w.heap.size w.heap.size n n (sn (P ++ L.take b) n) w wr)) (fun i _ => L.length - (intOf i).toNat)
      case atStart => exact ⟨0, rfl, by omega, by simpa using OW⟩
      case round =>
        clear OW
        obtain ⟨b, rfl, hb, OW⟩ := hrel
        have e0 := F1.out _ OW.out.2.2.2
        by_cases hlb : b < L.length
        · obtain ⟨bb, oo, rfl, e1⟩ := F2.out _ OW.out.2.2.2 b hlb
          have hm : L[b] < n := F4.out _ (List.getElem_mem hlb)
          have HT : Hid (P ++ L.take (b + 1) = (P ++ L.take b) ++ [L[b]]) := Lib.hid (by rw [List.take_succ_eq_append_getElem hlb, List.append_assoc])
          have hwb : IntKind.i64.wrap ((b : Int) + 1) = (b : Int) + 1 := IntWalk.i64_in _ (by have := LL.out; omega)
          have i2 : (b : Int) < (L.length : Int) := by omega
          generalize L[b] = m at *
          have d1 : decide ((m : Int) < 0) = false := by simp
          have d2 : decide ((n : Int) ≤ (m : Int)) = false := by simp; omega
          have i3 : (m : Int) < (n : Int) := by omega
          have e2 := OW.out.cell m hm
          have f2 := OW.out.frozen m
          have OS := Lib.hid (OW.out.set m (nth (sn (P ++ L.take b) n) m + 1))
          rw [sn_set _ _ _ hm, ← HT.out] at OS
          have hy : 0 ≤ nth (sn (P ++ L.take b) n) m ∧ nth (sn (P ++ L.take b) n) m ≤ 1000 := by
            rw [sn_at _ _ _ hm]
            have h1 := List.count_le_length (a := m) (l := P ++ L.take b)
            have h3 : (P ++ L.take b).length ≤ 1000 := by have h2 := F5.out; simp at h2 ⊢; omega
            omega
          generalize nth (sn (P ++ L.take b) n) m = y at *
          have hwy : IntKind.i64.wrap (y + 1) = y + 1 := IntWalk.i64_in _ (by omega)
          clear OW HT F1 F2 F3 F4 F5 LL FK FC FR hy
          go_wp2
          go_roundw
          case rel => exact ⟨b + 1, by simp, by omega, OS⟩
          case measure => simp [intOf]; omega
        · obtain rfl : L.length = b := by omega
          have OS := OW
          rw [List.take_length, ← F3.out] at OS
          clear OW F2 F3 F4 F5 FK FC FR
          go_wp2
          go_roundw
          case rel => exact ⟨k + 1, by simp, by omega, OS⟩
          case measure => simp [intOf]; omega
    · obtain rfl : k = 2 := by omega
      have OW := Lib.hid (show Own w.heap.size w.heap.size n n (sn (own ++ st) n) w wr from OW.out)
      clear FK
      go_wp2_with fail
      go_loopw [9] (fun i wr => ∃ j : Nat, i = .int .i64 j ∧ j ≤ n ∧ Hid (Own w.heap.size w.heap.size n n (sn (own ++ st) n) w wr)) (fun i _ => n - (intOf i).toNat)
      case atStart => exact ⟨0, rfl, by omega, OW⟩
      case round =>
        clear OW
        obtain ⟨j, rfl, hj, OW⟩ := hrel
        by_cases hlj : j < n
        · have j1 : (j : Int) < (n : Int) := by omega
          have hwj : IntKind.i64.wrap ((j : Int) + 1) = (j : Int) + 1 := IntWalk.i64_in _ (by omega)
          have e0 := (FR.out _ OW.out.2.2.2).1
          have e1 := (FR.out _ OW.out.2.2.2).2 j hlj
          have e2 := OW.out.cell j hlj
          rw [FC.out j hlj] at e2
          clear FR FC
          cases e : hd j
          · rw [e, show hv false = -1 from rfl] at e1
            rw [e, if_neg (by decide)] at e2
            go_wp2
            go_roundw
            case rel => exact ⟨j + 1, by simp, by omega, OW⟩
            case measure => simp [intOf]; omega
          · rw [e, show hv true = 0 from rfl] at e1
            rw [e, if_pos rfl] at e2
            go_wp2
            go_roundw
            case rel => exact ⟨j + 1, by simp, by omega, OW⟩
            case measure => simp [intOf]; omega
        · obtain rfl : j = n := by omega
          clear FR FC
          go_wp2
          go_ret
          exact ⟨rfl, OW.out.2.2.2⟩
end Go.Proofs.Ytaihmkflhapjeaa

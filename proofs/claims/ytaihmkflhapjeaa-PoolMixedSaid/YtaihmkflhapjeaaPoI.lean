/-
  The reference's World: who holds what; New.
-/
import Derived.Test.YtaihmkflhapjeaaPoH
import Derived.Test.YtaihmkflhapjeaaAp
namespace Go.Proofs.Ytaihmkflhapjeaa
open Go.RowKit Go.MuLone
set_option linter.unusedVariables false
def hv (b : Bool) : Int := if b then 0 else -1
/-- who holds what, in memory -/
def RH (q g n cap : Nat) (hd : Nat → Bool) (w : World) : Prop := w.heap[q]? = some (.cells #[.slice (some ⟨g, 0, none⟩) n cap] 54 (0, 0)) ∧ n ≤ cap ∧ cap ≤ 9223372036854775807 ∧ (∃ cur, w.heap[g]? = some (.cells cur 3 (0, 0))) ∧ ∀ j, j < n → w.cell? ⟨g, j, none⟩ = some (.int .i64 (hv (hd j)))
theorem RH.keep {q g n cap : Nat} {hd : Nat → Bool} {w w1 : World} {S : List Nat} (h : RH q g n cap hd w) (k : Tw S w w1) (hq : q ∉ S) (hg : g ∉ S) : RH q g n cap hd w1 := by
  obtain ⟨h1, h2, h3, ⟨cur, h4⟩, h5⟩ := h
  exact ⟨blk_tw h1 k hq, h2, h3, ⟨cur, blk_tw h4 k hg⟩, fun j hj => (cell_tw k (lt_hp h4) hg j).trans (h5 j hj)⟩
theorem RH.up {q g n cap : Nat} {hd : Nat → Bool} {w w1 : World} (h : RH q g n cap hd w) (k : Below w.heap.size w w1) : RH q g n cap hd w1 := h.keep (Tw.of (S := []) k) (by simp) (by simp)
theorem RH.ne {q g n cap : Nat} {hd : Nat → Bool} {w : World} (h : RH q g n cap hd w) : q ≠ g := by
  obtain ⟨h1, h2, h3, ⟨cur, h4⟩, h5⟩ := h
  intro e
  subst e
  rw [h1] at h4
  injection h4 with h4
  injection h4 with _ h4 _
  exact absurd h4 (by decide)
theorem RH.cells {q g n cap : Nat} {hd : Nat → Bool} {w : World} (h : RH q g n cap hd w) : w.cell? ⟨q, 0, none⟩ = some (.slice (some ⟨g, 0, none⟩) n cap) ∧ ∀ j, w.frozen? ⟨g, j, none⟩ = false := by
  obtain ⟨h1, h2, h3, ⟨cur, h4⟩, h5⟩ := h
  exact ⟨(cell_of_row w q 0 _ 54 _ h1).trans rfl, fun j => by simp [World.frozen?, h4]⟩
theorem RH.st {q g n cap : Nat} {hd : Nat → Bool} {w : World} (h : RH q g n cap hd w) (m : Nat) (hm : m < n) (v : Bool) : RH q g n cap (upf hd m v) (w.setCell ⟨g, m, none⟩ (.int .i64 (hv v))) := by
  have hne := h.ne
  obtain ⟨h1, h2, h3, ⟨cur, h4⟩, h5⟩ := h
  refine ⟨blk_oth h1 hne m _, h2, h3, ⟨_, blk_set h4 m (.int .i64 (hv v))⟩, fun j hj => ?_⟩
  have hc := h5 j hj
  by_cases e : j = m
  · subst e
    rw [upf_at]
    have : j < cur.size := by
      simp [World.cell?, h4] at hc
      exact (Array.getElem?_eq_some_iff.mp hc).1
    simp [World.cell?, blk_set h4 j (.int .i64 (hv v)), this]
  · rw [upf_in _ _ _ _ e]
    have e' : ¬ m = j := fun h => e h.symm
    simp [World.cell?, h4] at hc
    simp [World.cell?, blk_set h4 m (.int .i64 (hv v)), e', hc]
set_option maxHeartbeats 4000000 in
theorem rnew_any (n : Nat) (h1 : 1 ≤ n) (h2 : n ≤ 1000) (w : World) : Calls Try.prog 21 #[.int .i64 (n : Int)] w fun e w' => ∃ g cap, e = .returned (.pointer (some ⟨w.heap.size, 0, none⟩)) ∧ w.heap.size < g ∧ RH w.heap.size g n cap (fun _ => false) w' ∧ Below w.heap.size w w' := by
  obtain ⟨i0, hi, hz0, hz1, hz2⟩ := info_parts info3
  have E1 := Lib.hid (hal_new w (.cells #[.slice none 0 0] 54 (0, 0)))
  have BL := Lib.hid (bl_al (Below.refl _ w) (.cells #[.slice none 0 0] 54))
  have ht : (fun _ : Nat => (0 : Int)) = fun _ => 0 := rfl
  go_enter Try.func21, Try.ntmps21
  go_wp2_with fail
  generalize (w.alloc (.cells #[.slice none 0 0] 54)) = W0 at *
  have LQ := Lib.hid (lt_hp E1.out)
  generalize hq : w.heap.size = q at *
  have HQ := Lib.hid hq
  go_loopw [4] (fun i wr => ∃ (k : Nat) (xa : Option Addr) (xc : Nat), i = .int .i64 k ∧ k ≤ n ∧ Hid (wr.heap[q]? = some (.cells #[.slice xa k xc] 54 (0, 0))) ∧ Hid (wr.ownsRow (q + 1) 3 1 (.slice xa k xc) k ((List.replicate k (-1 : Int)).map (Value.int .i64))) ∧ Hid (Below q w wr)) (fun i _ => n - (intOf i).toNat)
  case atStart => exact ⟨0, none, 0, rfl, by omega, E1, Lib.hid ⟨rfl, .inl ⟨rfl, rfl⟩⟩, BL⟩
  case round =>
    obtain ⟨k, xa, xc, rfl, hk, HB, OW, B⟩ := hrel
    by_cases hlt : k < n
    · have i1 : (k : Int) < (n : Int) := by omega
      have hwk : IntKind.i64.wrap ((k : Int) + 1) = (k : Int) + 1 := IntWalk.i64_in _ (by omega)
      have c0 := (cell_of_row wr q 0 _ 54 _ HB.out).trans rfl
      have hml : k + 1 ≤ maxLen := by unfold maxLen; omega
      have hby8 : (k + 1) * 8 ≤ 140737488355328 := by omega
      have hal := bl_al (Below.refl _ wr) (.cells #[.int .i64 (-1)] 3)
      have OW2 := Lib.hid (own_up OW.out (Tw.of (S := []) hal) (by simp))
      have HB2 := Lib.hid ((hal.block _ (lt_hp HB.out)).trans HB.out)
      have B2 := Lib.hid (B.out.trans (hal.mono (by have := lt_hp HB.out; omega)))
      have hnew := Lib.hid (cell_one wr (-1))
      have hbs := Lib.hid (show q + 1 ≤ (wr.alloc (.cells #[.int .i64 (-1)] 3)).heap.size by have := lt_hp HB2.out; omega)
      clear hal OW HB B
      go_wp2_with (at_builtin; refine wpList_append_own _ rfl _ _ 36 rfl (q + 1) 3 i0 (.int .i64 0) 1 8 Try.underlying36 hi hz0 hz1 hz2 rfl (by decide) _ _ _ rfl OW2.out ⟨wr.heap.size, 0, none⟩ 1 1 [.int .i64 (-1)] rfl rfl hnew.out (by simp [Value.oneCell']) hml hby8 hbs.out ?_)
      intro v' w7 hown hgrow hne
      obtain ⟨ya, yc, rfl⟩ := own_sl hown
      have hgt := grown_tw hgrow
      have hS : ∀ i, i ∈ (Value.ownBlock (.slice xa k xc)).toList → q + 1 ≤ i := fun i hi => by
        rcases OW2.out.2 with ⟨h', _⟩ | ⟨g', cap', cur', hv, hg', _⟩
        · rw [h'] at hi; simp [Value.ownBlock] at hi
        · rw [hv] at hi; simp [Value.ownBlock] at hi; omega
      have hb7 := blk_tw HB2.out hgt (fun h => by have := hS q h; omega)
      have ts : Tw [q] w7 (w7.setCell ⟨q, 0, none⟩ (.slice ya (k + 1) yc)) := (Tw.refl [q] w7).st q (.inl (by simp)) _ _
      have HB3 := Lib.hid (blk_set hb7 0 (.slice ya (k + 1) yc))
      have hown' := own_up hown ts (fun i hi => by simp at hi; omega)
      have OW3 : Hid ((w7.setCell ⟨q, 0, none⟩ (.slice ya (k + 1) yc)).ownsRow (q + 1) 3 1 (.slice ya (k + 1) yc) (k + 1) ((List.replicate (k + 1) (-1 : Int)).map (Value.int .i64))) := Lib.hid (by
        rw [List.map_replicate, List.replicate_succ']
        exact hown')
      have hqs : q ≤ w7.heap.size := by have := lt_hp hb7; omega
      have B3 := Lib.hid (ts.below (hgt.below B2.out (fun i hi => by have := hS i hi; omega) (by have := lt_hp HB2.out; omega)) (by simp) hqs)
      have hc7 := (cell_of_row w7 q 0 _ 54 _ hb7).trans rfl
      have hf7 : w7.frozen? ⟨q, 0, none⟩ = false := by simp [World.frozen?, hb7]
      clear OW2 HB2 B2 hnew hbs hown hgrow hgt hS hb7 ts hown' hml hby8
      go_wp2
      go_roundw
      case rel => exact ⟨k + 1, ya, yc, by simp, by omega, HB3, OW3, B3⟩
      case measure => simp [intOf]; omega
    · obtain rfl : k = n := by omega
      have FN : Hid (∃ g cap, q < g ∧ RH q g k cap (fun _ => false) wr) := Lib.hid (by
        rcases OW.out.2 with ⟨h', _⟩ | ⟨g, cap, cur, hv, hg, _⟩
        · cases h'; omega
        · cases hv
          have HO : Own (q + 1) g k xc (List.replicate k (-1)) wr wr := ⟨by simp, hg, OW.out, Below.refl _ _⟩
          refine ⟨g, xc, by omega, HB.out, HO.cap.1, HO.cap.2, HO.blk, fun j hj => ?_⟩
          rw [HO.cell j hj]
          unfold nth hv
          simp [hj])
      clear HB OW
      go_wp2
      go_ret
      obtain ⟨g, cap, h1, h2⟩ := FN.out
      rw [HQ.out]
      exact ⟨g, cap, rfl, h1, h2, B.out⟩
end Go.Proofs.Ytaihmkflhapjeaa

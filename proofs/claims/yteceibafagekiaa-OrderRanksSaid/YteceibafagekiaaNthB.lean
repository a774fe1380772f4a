/-
  order.Nth at a rank that is too great; the reference's Rank of lists that are none.
-/
import Derived.Test.YteceibafagekiaaNth
import Derived.Test.YteceibafagekiaaRefRank
namespace Go.Proofs.Yteceibafagekiaa
open Go.RowKit
set_option linter.unusedVariables false
open Classical in
theorem refRank_bad (p : List Int) (h : ¬ isP p) (hn : p.length ≤ 1000) (a : Option Addr) (c : Nat) (w : World) (hI : Ints w a p) :
    Calls Try.prog 20 #[.slice a p.length c] w fun e w' => e = .returned (.tuple #[.int .i64 0, .int .i64 1]) ∧ Below w.heap.size w w' := by
  have HIs := Lib.hid (refIs_any p hn a c w hI)
  have e1 : decide (isP p) = false := by simpa using h
  rw [e1] at HIs
  clear hI h e1
  generalize p.length = n at *
  go_enter Try.func20, Try.ntmps20
  go_wp2_with fail
  refine HIs.out.mono ?_; rintro e w1 ⟨rfl, rfl⟩
  go_wp2
  go_ret2
  exact ⟨rfl, Below.refl _ _⟩
open Classical in
theorem refRank_big (p : List Int) (h : isP p) (hb : 20 < p.length) (hn : p.length ≤ 1000) (a : Option Addr) (c : Nat) (w : World) (hI : Ints w a p) :
    Calls Try.prog 20 #[.slice a p.length c] w fun e w' => e = .returned (.tuple #[.int .i64 0, .int .i64 5]) ∧ Below w.heap.size w w' := by
  have HIs := Lib.hid (refIs_any p hn a c w hI)
  have e1 : decide (isP p) = true := by simpa using h
  rw [e1] at HIs
  clear hI h e1
  generalize p.length = n at *
  have h2' : (20 : Int) < (n : Int) := by omega
  go_enter Try.func20, Try.ntmps20
  go_wp2_with fail
  refine HIs.out.mono ?_; rintro e w1 ⟨rfl, rfl⟩
  go_wp2
  go_ret2
  exact ⟨rfl, Below.refl _ _⟩
set_option maxRecDepth 100000 in
set_option maxHeartbeats 4000000 in
theorem nth_big (n r : Nat) (hn : n ≤ 20) (hr63 : r ≤ 9223372036854775807) (hr : fN n ≤ r) (w : World) :
    Calls Try.prog 21 #[.int .i64 n, .int .i64 r] w fun e w' => e = .returned (.tuple #[.slice none 0 0, .int .i64 11]) ∧ Below w.heap.size w w' := by
  obtain ⟨i0, hi, hz0, hz1, hz2⟩ := info_parts info3
  have g1 : ¬ (n : Int) < 0 := by omega
  have g2 : ¬ 20 < (n : Int) := by omega
  have g3 : ¬ (r : Int) < 0 := by omega
  have HB := Lib.hid (Below.refl w.heap.size w)
  go_enter Try.func21, Try.ntmps21
  go_wp2_with (at_make; refine wpList_make_full _ rfl _ _ 22 rfl w.heap.size 3 i0 (.int .i64 0) 1 Try.underlying22 hi hz0 hz1 .i64 .i64 _ _ n rfl rfl rfl rfl (by rw [hz2]; omega) (by unfold maxLen; omega) HB.out.size ?_)
  intro w2 hown hgrow
  have hb2 : Below w.heap.size w w2 := HB.out.grown hgrow HB.out.size (fun j hj => by cases hj)
  have A0 := Lib.hid (made_own' HB.out.size hown hb2)
  clear hown hgrow hb2
  generalize hgl : w.heap.size = gl at *
  rw [lessL_zero n r] at A0
  have HU := Lib.hid (up_div r)
  have HS := Lib.hid (lessL_set n r)
  have H1 := Lib.hid (show r / fN 0 = r from by rw [show fN 0 = 1 from by unfold fN; rfl, Nat.div_one])
  have HE := Lib.hid (show 0 < r / fN n from Nat.div_pos hr (fN_pos n))
  have HLe := Lib.hid (fun j => Nat.div_le_self r (fN j))
  clear hr
  go_wp2
  go_loopw [1, 7] (fun x i wr => ∃ j : Nat, j ≤ n ∧ x = .int .i64 ((r / fN j : Nat) : Int) ∧ i = .int .i64 ((j : Int) + 1) ∧ Hid (Own gl gl n n (lessL n r j) w wr)) (fun _ i _ => n + 1 - (intOf i).toNat)
  case atStart => exact ⟨0, by omega, by rw [H1.out], rfl, A0⟩
  case round =>
    clear A0
    obtain ⟨j, hj, rfl, rfl, HO⟩ := hrel
    by_cases hlt : j < n
    · have hle := HLe.out j
      have hu := Lib.hid (HU.out j)
      have hs := Lib.hid (HS.out j hlt)
      generalize hX : r / fN j = X at *
      have q1 : ((X : Int)).tdiv ((j : Int) + 1) = ((X / (j + 1) : Nat) : Int) := rfl
      have q2 : ((X : Int)).tmod ((j : Int) + 1) = ((X % (j + 1) : Nat) : Int) := rfl
      have q3 := Nat.div_le_self X (j + 1)
      have q4 := Nat.mod_le X (j + 1)
      have c1 := HO.out.cell (n - (j + 1)) (by omega)
      have c2 := HO.out.frozen (n - (j + 1))
      have HN : Hid (Own gl gl n n (lessL n r (j + 1)) w (wr.setCell ⟨gl, n - (j + 1), none⟩ (.int .i64 ((X % (j + 1) : Nat) : Int)))) := by
        show Own _ _ _ _ _ _ _
        rw [← hs.out]
        exact HO.out.set (n - (j + 1)) ((X % (j + 1) : Nat) : Int)
      have e1 : (n : Int) - ((j : Int) + 1) = ((n - (j + 1) : Nat) : Int) := by omega
      have g5 : (j : Int) + 1 ≤ (n : Int) := by omega
      generalize X % (j + 1) = M at *
      generalize hD : X / (j + 1) = D at *
      generalize nth (lessL n r j) (n - (j + 1)) = old at *
      generalize hI : n - (j + 1) = I at *
      have g6 : I < n := by omega
      clear hI hD hX
      go_wp2
      go_roundw
      case rel => exact ⟨j + 1, by omega, by rw [hu.out], by go_num, HN⟩
      case measure => simp [intOf]; omega
    · obtain rfl : n = j := by omega
      have hp := HE.out
      have hle := HLe.out n
      generalize r / fN n = X at *
      have g5 : ¬ (n : Int) + 1 ≤ (n : Int) := by omega
      have g6 : (0 : Int) < (X : Int) := by omega
      go_wp2
      go_ret2
      exact ⟨rfl, HO.out.2.2.2⟩
end Go.Proofs.Yteceibafagekiaa

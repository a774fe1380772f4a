/-
  What lexes answers, and Scan of a text that is too long.
-/
import Derived.Test.YtlgmmddomhhobaaScan
namespace Go.Proofs.Ytlgmmddomhhobaa
open Go.RowKit
set_option linter.unusedVariables false
theorem scan_long (s : ByteArray) (hs : 65536 < s.size) (w : World) : Calls Try.prog 8 #[.string s] w fun e w' => e = .returned (.tuple #[.slice none 0 0, .int .i64 0, .int .i64 5]) ∧ w = w' := by
  have g0 : (65536 : Int) < (s.size : Int) := by omega
  go_enter Try.func8, Try.ntmps8
  go_wp2
  go_ret3
  exact ⟨rfl, rfl⟩
theorem refscan_long (s : ByteArray) (hs : 65536 < s.size) (w : World) : Calls Try.prog 9 #[.string s] w fun e w' => e = .returned (.tuple #[.slice none 0 0, .int .i64 0, .int .i64 5]) ∧ w = w' := by
  have g0 : (65536 : Int) < (s.size : Int) := by omega
  go_enter Try.func9, Try.ntmps9
  go_wp2
  go_ret3
  exact ⟨rfl, rfl⟩
def txA : ByteArray := ⟨#[84, 83, 80, 32, 51, 32, 35, 32, 120]⟩
def txB : ByteArray := ⟨#[120, 32, 195, 188]⟩
def toksA : List Tok := [⟨1, ⟨#[84, 83, 80]⟩, 0, 0⟩, ⟨2, noText, 3, 4⟩, ⟨3, noText, 0, 9⟩]
theorem spA : SP txA 0 [] = .ok toksA := by kernel_rfl
theorem spB : SP txB 0 [] = .bad 2 2 := by kernel_rfl
theorem scanA (w : World) : Calls Try.prog 8 #[.string ⟨#[84, 83, 80, 32, 51, 32, 35, 32, 120]⟩] w fun e w' => ∃ g cap, e = .returned (.tuple #[.slice (some ⟨g, 0, none⟩) 3 cap, .int .i64 0, .int .i64 0]) ∧ Below w.heap.size w w' ∧ g < w'.heap.size ∧ w'.cell? ⟨g, 1, none⟩ = some (.string ⟨#[84, 83, 80]⟩) ∧ w'.cell? ⟨g, 6, none⟩ = some (.int .i64 3) ∧ w'.cell? ⟨g, 8, none⟩ = some (.int .i64 3) := by
  refine (scan_any txA (by decide) w).mono ?_
  intro e w' h
  rw [spA] at h
  obtain ⟨v, rfl, ho, hb⟩ := h
  have ho : w'.ownsRow w.heap.size 36 4 v 3 (encL toksA) := ho
  obtain ⟨g, cap, rfl, h1, h2⟩ := ho.form (by omega)
  exact ⟨g, cap, rfl, hb, h2, by rw [ho.cellAt 1 (by omega)]; rfl, by rw [ho.cellAt 6 (by omega)]; rfl, by rw [ho.cellAt 8 (by omega)]; rfl⟩
theorem scanB (w : World) : Calls Try.prog 8 #[.string ⟨#[120, 32, 195, 188]⟩] w fun e w' => e = .returned (.tuple #[.slice none 0 0, .int .i64 2, .int .i64 2]) ∧ Below w.heap.size w w' := by
  refine (scan_any txB (by decide) w).mono ?_
  intro e w' h
  rw [spB] at h
  exact h
theorem cell_up {w w' : World} {g k : Nat} {v : Value} (hb : Below w.heap.size w w') (hg : g < w.heap.size) (h : w.cell? ⟨g, k, none⟩ = some v) : w'.cell? ⟨g, k, none⟩ = some v := by
  rw [← h]; unfold World.cell?; simp only; rw [hb.block g hg]
set_option maxRecDepth 100000 in
theorem lexes_any (w : World) : Calls Try.prog 7 #[] w fun e w' => e = .returned (.bool true) ∧ Below w.heap.size w w' := by
  have SA := Lib.hid (fun W => scanA W)
  have SB := Lib.hid (fun W => scanB W)
  go_enter Try.func7, Try.ntmps7
  go_wp2_with fail
  refine (SA.out _).mono ?_
  rintro e w1 ⟨g, cap, rfl, hb1, hg, c1, c2, c3⟩
  go_wp2_with fail
  refine (SB.out _).mono ?_
  rintro e w2 ⟨rfl, hb2⟩
  have HB := Lib.hid (below_tr hb1 hb2)
  have d1 := cell_up hb2 hg c1
  have d2 := cell_up hb2 hg c2
  have d3 := cell_up hb2 hg c3
  clear hb1 hb2 c1 c2 c3
  go_wp2
  go_ret
  exact ⟨rfl, HB.out⟩
end Go.Proofs.Ytlgmmddomhhobaa

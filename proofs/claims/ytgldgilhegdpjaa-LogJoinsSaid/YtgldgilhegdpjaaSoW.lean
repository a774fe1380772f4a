/-
  slices.swapRangeCmpFunc of a list of records.
-/
import Derived.Test.YtgldgilhegdpjaaSoI
namespace Go.Proofs.Ytgldgilhegdpjaa.so
open Go.RowKit
set_option linter.unusedVariables false
variable {TB : Tb}
def sw (l : List Int) (i j : Nat) : List Int := (l.set i (nth l j)).set j (nth l i)
theorem sw_len (l : List Int) (i j : Nat) : (sw l i j).length = l.length := by unfold sw; simp
theorem Own.sw {B g n cap : Nat} {l : List Int} {w0 wr : World} (h : Own TB B g n cap l w0 wr) (i j : Nat) : Own TB B g n cap (sw l i j) w0 ((((wr.setCell ⟨g, i * 2, none⟩ (.int .i64 (TB.k (nth l j)))).setCell ⟨g, i * 2 + 1, none⟩ (.slice (TB.a (nth l j)) (TB.n (nth l j)) (TB.c (nth l j)))).setCell ⟨g, j * 2, none⟩ (.int .i64 (TB.k (nth l i)))).setCell ⟨g, j * 2 + 1, none⟩ (.slice (TB.a (nth l i)) (TB.n (nth l i)) (TB.c (nth l i)))) :=
  (h.set i (nth l j)).set j (nth l i)
attribute [irreducible] sw
theorem sw_nth (l : List Int) (i j a : Nat) (hi : i < l.length) (hj : j < l.length) : nth (sw l i j) a = if a = j then nth l i else if a = i then nth l j else nth l a := by
  unfold sw
  rw [nth_set _ _ _ _ (by simpa using hj), nth_set _ _ _ _ hi]
  simp only [eq_comm (a := a)]
/-- m numbers from a on change places with those from b on: t of them -/
def sr (l : List Int) (a b : Nat) : Nat → List Int
  | 0 => l
  | t + 1 => sw (sr l a b t) (a + t) (b + t)
theorem sr_zero (l : List Int) (a b : Nat) : sr l a b 0 = l := rfl
theorem sr_succ (l : List Int) (a b t : Nat) : sr l a b (t + 1) = sw (sr l a b t) (a + t) (b + t) := rfl
theorem sr_len (l : List Int) (a b : Nat) : ∀ t, (sr l a b t).length = l.length
  | 0 => rfl
  | t + 1 => by rw [sr_succ, sw_len, sr_len l a b t]
attribute [irreducible] sr
set_option maxRecDepth 100000 in
set_option maxHeartbeats 4000000 in
theorem swapRange_any (B g n cap : Nat) (l : List Int) (w0 : World) (a b m c : Nat) (ha : a + m ≤ b) (hb : b + m ≤ n) (hn : n ≤ 1000) (hc : n ≤ c) (v : Value) (w : World) (ho : Own TB B g n cap l w0 w) :
    Calls Try.prog 29 #[.slice (some ⟨g, 0, none⟩) n c, .int .i64 a, .int .i64 b, .int .i64 m, v] w fun e w' => e = .returned (.tuple #[]) ∧ Own TB B g n cap (sr l a b m) w0 w' := by
  have HO := Lib.hid ho
  have H0 := Lib.hid (sr_zero l a b)
  have HS := Lib.hid (sr_succ l a b)
  clear ho
  have HO0 : Hid (Own TB B g n cap (sr l a b 0) w0 w) := by show Own _ _ _ _ _ _ _ _; rw [H0.out]; exact HO.out
  clear HO H0
  go_enter Try.func29, Try.ntmps29
  go_wp2
  go_loopw [10] (fun i wr => ∃ t : Nat, t ≤ m ∧ i = .int .i64 t ∧ Hid (Own TB B g n cap (sr l a b t) w0 wr)) (fun i _ => m - (intOf i).toNat)
  case atStart => exact ⟨0, by omega, rfl, HO0⟩
  case round =>
    clear HO0
    obtain ⟨t, ht, rfl, HP⟩ := hrel
    by_cases hlt : t < m
    · obtain ⟨e1, e1b⟩ := HP.out.cell (a + t) (by omega)
      obtain ⟨e2, e2b⟩ := HP.out.cell (b + t) (by omega)
      have f1 := HP.out.frozen ((a + t) * 2)
      have f1b := HP.out.frozen ((a + t) * 2 + 1)
      have f2 := HP.out.frozen ((b + t) * 2)
      have f2b := HP.out.frozen ((b + t) * 2 + 1)
      have HN : Hid (∀ W, Own TB B g n cap (sr l a b t) w0 W → Own TB B g n cap (sr l a b (t + 1)) w0 ((((W.setCell ⟨g, (a + t) * 2, none⟩ (.int .i64 (TB.k (nth (sr l a b t) (b + t))))).setCell ⟨g, (a + t) * 2 + 1, none⟩ (.slice (TB.a (nth (sr l a b t) (b + t))) (TB.n (nth (sr l a b t) (b + t))) (TB.c (nth (sr l a b t) (b + t))))).setCell ⟨g, (b + t) * 2, none⟩ (.int .i64 (TB.k (nth (sr l a b t) (a + t))))).setCell ⟨g, (b + t) * 2 + 1, none⟩ (.slice (TB.a (nth (sr l a b t) (a + t))) (TB.n (nth (sr l a b t) (a + t))) (TB.c (nth (sr l a b t) (a + t)))))) := fun W h => by
        rw [HS.out t]; exact h.sw (a + t) (b + t)
      have g1 : (0 : Int) ≤ (a : Int) + (t : Int) := by omega
      have g2 : (a : Int) + (t : Int) < (n : Int) := by omega
      have g3 : (0 : Int) ≤ (b : Int) + (t : Int) := by omega
      have g4 : (b : Int) + (t : Int) < (n : Int) := by omega
      have g6 : a + t ≠ b + t := by omega
      have g7 : ((a : Int) + (t : Int)).toNat = a + t := by omega
      have g8 : ((b : Int) + (t : Int)).toNat = b + t := by omega
      generalize nth (sr l a b t) (b + t) = y at *
      generalize nth (sr l a b t) (a + t) = x at *
      go_wp2
      go_region
      all_goals
        go_wp2
        go_roundw
        case rel => exact ⟨t + 1, by omega, by go_num, (HN.out _ HP.out).keep (bl_drew _)⟩
        case measure => simp [intOf]; omega
    · obtain rfl : t = m := by omega
      go_wp2
      go_end0
      exact ⟨rfl, HP.out⟩
end Go.Proofs.Ytgldgilhegdpjaa.so

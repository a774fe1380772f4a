/-
  The walk of kurganlaw02.SetWalks.
-/
import Derived.Test.YtnenpgndghdheaaDoorSetsT
import Derived.Test.YtnenpgndghdheaaDoorNth
namespace Go.Proofs.YtnenpgndghdheaaDoor
open Go.RowKit
set_option linter.unusedVariables false
/-- at a number of the walk -/
theorem at_step {x y k i : Nat} {t : List Nat} (hk : k ≤ 128) (h : lst (mem x y) k (128 - k) = i :: t) :
    i < 128 ∧ mem x y i = true ∧ (lst (mem x y) 0 i).length = (lst (mem x y) 0 k).length ∧ (both x y)[(lst (mem x y) 0 k).length]?.getD (-1) = (i : Int) ∧ (lst (mem x y) 0 k).length < 128 ∧ (lst (mem x y) 0 (i + 1)).length = (lst (mem x y) 0 k).length + 1 ∧ fst (lst (mem x y) k (128 - k)) = (i : Int) := by
  obtain ⟨h1, h2, h3, h4, h5⟩ := walk_step hk h
  have hc := nums_cut (mem x y) k hk
  refine ⟨h1, h2, by rw [h3], ?_, ?_, by rw [h4]; simp, by rw [h, fst_cons]⟩
  · rw [both_nums, hc, h]
    simp
  · have hl : (nums (mem x y)).length ≤ 128 := by unfold nums; exact lst_len _ _ _
    rw [hc, h] at hl
    simp at hl
    omega
theorem at_end {x y k : Nat} (hk : k ≤ 128) (h : lst (mem x y) k (128 - k) = []) :
    (lst (mem x y) 0 k).length = (nums (mem x y)).length ∧ (both x y)[(lst (mem x y) 0 k).length]?.getD (-1) = -1 ∧ fst (lst (mem x y) k (128 - k)) = -1 ∧ (lst (mem x y) 0 k).length ≤ 128 := by
  have hc := nums_cut (mem x y) k hk
  rw [h, List.append_nil] at hc
  refine ⟨by rw [hc], ?_, by rw [h, fst_nil], ?_⟩
  · rw [both_nums, hc]; simp
  · have := lst_len (mem x y) k 0; omega
set_option maxRecDepth 100000 in
set_option maxHeartbeats 4000000 in
theorem setWalks_core (x y : Nat) (hx : x < 18446744073709551616) (hy : y < 18446744073709551616) (w : World) (hT : T64 w) :
    Calls Tryd.prog 5 #[.agg #[.int .u64 x, .int .u64 y]] w fun e w' => e = .returned (.bool true) ∧ Below w.heap.size w w' := by
  have B0 := bl_al (Below.refl w.heap.size w) (.cells #[.int .u64 x, .int .u64 y] 24)
  have q0 := new_two w x y
  have HF := Lib.hid (fun (X : World) (hb : Below w.heap.size w X) => first_any x y hx hy X (hT.keep hb))
  have HNx := Lib.hid (fun (X : World) (hb : Below w.heap.size w X) (k : Nat) (hk : k < 128) => next_any x y hx hy k hk X (hT.keep hb))
  have HRk := Lib.hid (fun (X : World) (k : Nat) (hk : k ≤ 128) => rank_any x y hx hy k hk X)
  have HNt := Lib.hid (fun (X : World) (hb : Below w.heap.size w X) (k : Nat) (hk : k ≤ 128) => nth_core x y hx hy k hk X (hT.keep hb))
  have HHs := Lib.hid (fun (X : World) (k : Nat) (hk : k < 128) => has_any x y hx hy k hk X)
  have HCt := Lib.hid (fun (X : World) => count_any x y hx hy X)
  have HSt := Lib.hid (fun (X : World) (hb : Below w.heap.size w X) => sets_any X (hT.keep hb))
  have HS1 := Lib.hid (fun (k i : Nat) (t : List Nat) (hk : k ≤ 128) (h : lst (mem x y) k (128 - k) = i :: t) => at_step hk h)
  have HS2 := Lib.hid (fun (k : Nat) (hk : k ≤ 128) (h : lst (mem x y) k (128 - k) = []) => at_end hk h)
  have e0 : nums (mem x y) = lst (mem x y) 0 128 := by unfold nums; rfl
  have z0 : (lst (mem x y) 0 0).length = 0 := by have := lst_len (mem x y) 0 0; omega
  obtain ⟨R, hR⟩ : ∃ R : Nat → Nat, ∀ k, R k = (lst (mem x y) 0 k).length := ⟨_, fun _ => rfl⟩
  obtain ⟨N, hN⟩ : ∃ N : Nat → Int, ∀ k, N k = fst (lst (mem x y) k (128 - k)) := ⟨_, fun _ => rfl⟩
  obtain ⟨C, hC⟩ : ∃ C : Nat, C = (nums (mem x y)).length := ⟨_, rfl⟩
  have hF0 : fst (nums (mem x y)) = N 0 := by rw [hN, e0]
  simp only [← hR, ← hN, ← hC] at HNx HRk HCt HS1 HS2
  rw [hF0] at HF
  rw [← hR] at z0
  have HCs : Hid (∀ k, k ≤ 128 → (lst (mem x y) k (128 - k) = [] ∨ ∃ i t, lst (mem x y) k (128 - k) = i :: t)) := fun k hk => by
    cases h : lst (mem x y) k (128 - k) with
    | nil => exact Or.inl rfl
    | cons i t => exact Or.inr ⟨i, t, rfl⟩
  have HZ := Lib.hid z0
  clear hT e0 hF0 hR hN hC z0
  go_enter Tryd.func5, Tryd.ntmps5
  have Q0 := Lib.hid q0
  have HB0 := Lib.hid B0
  have hc0 := two_keep (Below.refl _ _) Q0.out
  clear q0 B0
  go_wp2_with fail
  generalize w.alloc (.cells #[.int .u64 x, .int .u64 y] 24) = X at *
  refine (HF.out _ HB0.out).mono ?_; rintro e w1 ⟨rfl, b1⟩
  have Q1 := Lib.hid ((b1.block _ (lt_hp Q0.out)).trans Q0.out)
  have B1 := Lib.hid (HB0.out.trans (b1.mono HB0.out.size))
  clear b1 Q0 HB0 hc0
  go_wp2
  go_loopw [3, 4] (fun n i wr => ∃ k : Nat, k ≤ 128 ∧ n = .int .i64 (R k) ∧ i = .int .i64 (N k) ∧ Hid (wr.heap[w.heap.size]? = some (.cells #[.int .u64 x, .int .u64 y] 24 (0, 0))) ∧ Hid (Below w.heap.size w wr)) (fun n _ _ => 200 - (intOf n).toNat)
  case atStart => exact ⟨0, by omega, by rw [HZ.out]; rfl, rfl, Q1, B1⟩
  case round =>
    clear Q1 B1
    obtain ⟨k, hk, rfl, rfl, Q1, B1⟩ := hrel
    obtain ⟨d0, d1⟩ := two_keep (Below.refl _ _) Q1.out
    rcases HCs.out k hk with hnil | ⟨i, t, hcons⟩
    · obtain ⟨a1, a2, a3, a4⟩ := HS2.out k hk hnil
      have HN2 := Lib.hid (fun (Y : World) (hb : Below w.heap.size w Y) => HNt.out Y hb (R k) a4)
      rw [a2] at HN2
      rw [a3]
      rw [← a1] at HCt
      have hs := HSt.out wr B1.out
      have g0 : ¬ (0 : Int) ≤ -1 := by decide
      clear HF HNx HRk HNt HHs HSt HS1 HS2 HCs HZ hnil a1 a2 a3
      generalize R k = r at *
      go_wp2_with fail
      refine hs.mono ?_; rintro e w2 ⟨rfl, b2⟩
      have Q2 := Lib.hid ((b2.block _ (lt_hp Q1.out)).trans Q1.out)
      have B2 := Lib.hid (B1.out.trans (b2.mono B1.out.size))
      obtain ⟨m0, m1⟩ := two_keep (Below.refl _ _) Q2.out
      clear b2 Q1 B1 hs d0 d1
      go_wp2_with fail
      refine (HCt.out _).mono ?_; rintro e w3 ⟨rfl, b3⟩
      have Q3 := Lib.hid ((b3.block _ (lt_hp Q2.out)).trans Q2.out)
      have B3 := Lib.hid (B2.out.trans (b3.mono B2.out.size))
      obtain ⟨n0, n1⟩ := two_keep (Below.refl _ _) Q3.out
      clear b3 Q2 B2 m0 m1
      go_wp2_with fail
      refine (HN2.out _ B3.out).mono ?_; rintro e w4 ⟨rfl, b4⟩
      have B4 := Lib.hid (B3.out.trans (b4.mono B3.out.size))
      clear b4
      go_wp2
      go_ret
      exact ⟨rfl, B4.out⟩
    · obtain ⟨a1, a2, a3, a4, a5, a6, a7⟩ := HS1.out k i t hk hcons
      have HN2 := Lib.hid (fun (Y : World) (hb : Below w.heap.size w Y) => HNt.out Y hb (R k) (by omega))
      rw [a4] at HN2
      have HR2 := Lib.hid (fun (Y : World) => HRk.out Y i (by omega))
      rw [a3] at HR2
      have HH2 := Lib.hid (fun (Y : World) => HHs.out Y i a1)
      rw [a2] at HH2
      have HX2 := Lib.hid (fun (Y : World) (hb : Below w.heap.size w Y) => HNx.out Y hb i a1)
      rw [a7]
      have g0 : (0 : Int) ≤ (i : Int) := by omega
      have g1 : ¬ (128 : Int) ≤ (R k : Int) := by omega
      have HA6 := Lib.hid a6
      clear HF HNx HRk HNt HHs HSt HS1 HS2 HCs HZ hcons a2 a3 a4 a6 a7 HCt
      generalize R k = r at *
      go_wp2_with fail
      refine (HR2.out _).mono ?_; rintro e w2 ⟨rfl, b2⟩
      have Q2 := Lib.hid ((b2.block _ (lt_hp Q1.out)).trans Q1.out)
      have B2 := Lib.hid (B1.out.trans (b2.mono B1.out.size))
      obtain ⟨m0, m1⟩ := two_keep (Below.refl _ _) Q2.out
      clear b2 Q1 B1 d0 d1
      go_wp2_with fail
      refine (HN2.out _ B2.out).mono ?_; rintro e w3 ⟨rfl, b3⟩
      have Q3 := Lib.hid ((b3.block _ (lt_hp Q2.out)).trans Q2.out)
      have B3 := Lib.hid (B2.out.trans (b3.mono B2.out.size))
      obtain ⟨n0, n1⟩ := two_keep (Below.refl _ _) Q3.out
      clear b3 Q2 B2 m0 m1
      go_wp2_with fail
      refine (HH2.out _).mono ?_; rintro e w4 ⟨rfl, b4⟩
      have Q4 := Lib.hid ((b4.block _ (lt_hp Q3.out)).trans Q3.out)
      have B4 := Lib.hid (B3.out.trans (b4.mono B3.out.size))
      obtain ⟨o0, o1⟩ := two_keep (Below.refl _ _) Q4.out
      clear b4 Q3 B3 n0 n1
      go_wp2_with fail
      refine (HX2.out _ B4.out).mono ?_; rintro e w5 ⟨rfl, b5⟩
      have Q5 := Lib.hid ((b5.block _ (lt_hp Q4.out)).trans Q4.out)
      have B5 := Lib.hid (B4.out.trans (b5.mono B4.out.size))
      clear b5 Q4 B4 o0 o1
      go_wp2
      go_roundw
      case rel => exact ⟨i + 1, by omega, by rw [HA6.out]; go_num, rfl, Q5, B5⟩
      case measure => simp [intOf]; omega
theorem u64_nat {a : Int} (h : (Lit.int .u64 a).wf = true) : ∃ n : Nat, a = (n : Int) ∧ n < 18446744073709551616 := by
  have : 0 ≤ a ∧ a < 18446744073709551616 := by
    simp [Lit.wf, IntKind.min, IntKind.max, IntKind.signed, IntKind.bits] at h
    omega
  exact ⟨a.toNat, by omega, by omega⟩
theorem setWalks_walk (a b : Int) (fa : (Lit.int .u64 a).wf = true) (fb : (Lit.int .u64 b).wf = true) (w : World) (hT : T64 w) :
    Calls Tryd.prog 5 #[.agg #[.int .u64 a, .int .u64 b]] w fun e w' => e = .returned (.bool true) ∧ Below w.heap.size w w' := by
  obtain ⟨x, rfl, hx⟩ := u64_nat fa
  obtain ⟨y, rfl, hy⟩ := u64_nat fb
  exact setWalks_core x y hx hy w hT
end Go.Proofs.YtnenpgndghdheaaDoor

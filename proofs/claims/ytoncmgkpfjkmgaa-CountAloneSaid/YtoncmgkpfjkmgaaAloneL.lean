/-
  The walk through kurganlaw23.CountAlone.
-/
import Derived.Test.YtoncmgkpfjkmgaaCnt
namespace Go.Proofs.Ytoncmgkpfjkmgaa
open Go.RowKit Go.MuLone
set_option linter.unusedVariables false
theorem u64_bd (x : Int) : 0 ≤ IntKind.u64.wrap x ∧ IntKind.u64.wrap x ≤ 18446744073709551615 := by rw [IntKind.wrap_u64]; omega
set_option maxRecDepth 100000 in
set_option maxHeartbeats 8000000 in
theorem alone_core (n X : Int) (M : Nat) (hX : IntKind.u64.wrap n = X) (hX1 : 0 ≤ X ∧ X ≤ 18446744073709551615) (hM : X % 16 = (M : Int)) (w : World) :
    Calls Try.prog 5 #[.int .i64 n] w fun e w' => e = .returned (.bool true) ∧ Below w.heap.size w w' := by
  have hM1 : M ≤ 15 := by omega
  have F := Lib.hid (fun W => fresh_any 0 (1 + (M : Int)) (by omega) (by omega) (by omega) W)
  have C := Lib.hid (fun W => counts_any W)
  go_enter Try.func5, Try.ntmps5
  go_wp2_with fail
  refine (F.out _).mono ?_; rintro e w1 ⟨q, g, b, rfl, hq, hg, hb, st, bl⟩
  have G := Lib.hid (show w.heap.size ≤ q ∧ w.heap.size ≤ g ∧ w.heap.size ≤ b from ⟨hq, hg, hb⟩)
  have S := Lib.hid st
  have B := Lib.hid bl
  clear hq hg hb st bl F
  go_wp2_with fail
  refine (C.out _).mono ?_; rintro e w3 ⟨rfl, hb⟩
  have S := Lib.hid (S.out.keep (Tw.of (S := []) hb) (by simp) (by simp) (by simp))
  have B := Lib.hid (bl_tr B.out hb)
  clear hb C
  go_wp2_with fail
  go_loopw [6] (fun i wr => ∃ (k : Nat) (z s : Int), i = .int .i64 k ∧ k ≤ M + 1 ∧ Hid ((z = 1 ∧ M ≤ k) ∨ (2 ≤ z ∧ z + k = M + 1 ∧ k < M)) ∧ 0 ≤ s ∧ s ≤ 2 + 2 * k ∧ Hid (St q g b 1 [0, 0, z, 0] s wr) ∧ Hid (Below w.heap.size w wr)) (fun i _ => 20 - (intOf i).toNat)
  case atStart => exact ⟨0, 1 + (M : Int), 2, rfl, by omega, Lib.hid (by omega), by omega, by omega, S, B⟩
  case round =>
    clear S B
    obtain ⟨k, z, s, rfl, hk, HZ, s0, s1, S, B⟩ := hrel
    by_cases hlt : k < M + 1
    · have i1 : (k : Int) < 1 + (M : Int) := by omega
      have hww : IntKind.i64.wrap (1 + (M : Int) - 1) = (M : Int) := by rw [IntWalk.i64_in _ (by omega)]; omega
      go_wp2_with fail
      refine (leave_any q _).mono ?_; rintro e w4 ⟨p, rfl, hp, ha, hb⟩
      have P := Lib.hid (Nat.le_trans B.out.size hp)
      have S := Lib.hid (S.out.keep (Tw.of (S := []) hb) (by simp) (by simp) (by simp))
      have A := Lib.hid ha
      have B := Lib.hid (bl_tr B.out hb)
      clear hp ha hb
      by_cases hz : z = 1
      · have d1 : decide (k < M) = false := decide_eq_false (by have := HZ.out; omega)
        have L := Lib.hid (step_look p q g b 1 [0, 0, z, 0] s z 0 2 false (n42 0 z) (by rw [hz]; rfl) s0 (by omega) w4 S.out A.out)
        have HZ := Lib.hid (show z = 1 ∧ M ≤ k + 1 by have := HZ.out; omega)
        clear hz S
        go_wp2_with fail
        refine wp_loop_rounds 2 ?_
        rw [rounds_succ]
        go_wp2_with fail
        refine (over_any p q 0 0 false false rfl _ A.out).mono ?_; rintro e wx ⟨rfl, rfl⟩
        go_wp2_with fail
        refine L.out.mono ?_; rintro e w5 ⟨rfl, f⟩
        have S := Lib.hid f.st
        have A := Lib.hid f.ac
        have B := Lib.hid (f.tw.below B.out (by intro i hi; simp at hi; have := G.out; have := P.out; omega) B.out.size)
        clear f L
        go_wp2_with fail
        rw [rounds_succ]
        go_wp2_with fail
        refine (over_any p q 2 z false true rfl _ A.out).mono ?_; rintro e wx ⟨rfl, rfl⟩
        go_wp2_with fail
        refine (over_any p q 2 z false true rfl _ A.out).mono ?_; rintro e wx ⟨rfl, rfl⟩
        go_wp2_with fail
        refine (left_any p q 2 z false _ A.out).mono ?_; rintro e wx ⟨rfl, rfl⟩
        go_wp2
        exact ⟨⟨k + 1, z, s + 1, by simp, by omega, Lib.hid (.inl HZ.out), by omega, by omega, S, B⟩, by simp [intOf]; omega⟩
      · have hz2 : 2 ≤ z := by have := HZ.out; omega
        have d1 : decide (k < M) = true := decide_eq_true (by have := HZ.out; omega)
        have L := Lib.hid (step_look p q g b 1 [0, 0, z, 0] s z 0 1 false (n42 0 z) (by rw [if_neg (by omega)]) s0 (by omega) w4 S.out A.out)
        have L2 := Lib.hid (fun W (hS : St q g b 1 [0, 0, z, 0] (s + 1) W) hA => step_swap p q g b 1 [0, 0, z, 0] (s + 1) z z 2 false true (n42 0 z) (by simp) rfl (by omega) (by have := HZ.out; omega) (by omega) (by omega) W hS hA)
        rw [sw_yes] at L2
        have HZ' : Hid ((z - 1 = 1 ∧ M ≤ k + 1) ∨ (2 ≤ z - 1 ∧ z - 1 + ((k + 1 : Nat) : Int) = M + 1 ∧ k + 1 < M)) := Lib.hid (by have := HZ.out; omega)
        clear hz S HZ
        go_wp2_with fail
        refine wp_loop_rounds 3 ?_
        rw [rounds_succ]
        go_wp2_with fail
        refine (over_any p q 0 0 false false rfl _ A.out).mono ?_; rintro e wx ⟨rfl, rfl⟩
        go_wp2_with fail
        refine L.out.mono ?_; rintro e w5 ⟨rfl, f⟩
        have S := Lib.hid f.st
        have A := Lib.hid f.ac
        have B := Lib.hid (f.tw.below B.out (by intro i hi; simp at hi; have := G.out; have := P.out; omega) B.out.size)
        clear f L
        go_wp2_with fail
        rw [rounds_succ]
        go_wp2_with fail
        refine (over_any p q 1 z false false rfl _ A.out).mono ?_; rintro e wx ⟨rfl, rfl⟩
        go_wp2_with fail
        refine (L2.out _ S.out A.out).mono ?_; rintro e w6 ⟨rfl, f⟩
        have S := Lib.hid f.st
        have A := Lib.hid f.ac
        have B := Lib.hid (f.tw.below B.out (by intro i hi; simp at hi; have := G.out; have := P.out; omega) B.out.size)
        clear f L2
        go_wp2_with fail
        rw [rounds_succ]
        go_wp2_with fail
        refine (over_any p q 2 z true true rfl _ A.out).mono ?_; rintro e wx ⟨rfl, rfl⟩
        go_wp2_with fail
        refine (left_any p q 2 z true _ A.out).mono ?_; rintro e wx ⟨rfl, rfl⟩
        go_wp2
        exact ⟨⟨k + 1, z - 1, s + 1 + 1, by simp, by omega, HZ', by omega, by omega, S, B⟩, by simp [intOf]; omega⟩
    · have i1 : ¬ (k : Int) < 1 + (M : Int) := by omega
      have hz : z = 1 := by have := HZ.out; omega
      subst hz
      clear HZ
      go_wp2_with fail
      refine (now_any q g b 1 [0, 0, 1, 0] s _ S.out).mono ?_; rintro e w4 ⟨rfl, f1, f2⟩
      rw [show (1 : Nat) + 1 = 2 from rfl, n41, n42]
      have B := Lib.hid (f2.below B.out (by intro i hi; simp at hi; have := G.out; omega) B.out.size)
      clear f1 f2 S
      go_wp2
      go_ret
      exact ⟨rfl, B.out⟩
theorem countAlone_walk (n : Int) (w : World) (h : (Lit.int .i64 n).wf = true) :
    Calls Try.prog 5 #[.int .i64 n] w fun e w' => e = .returned (.bool true) ∧ Below w.heap.size w w' := by
  have hb := u64_bd n
  exact alone_core n (IntKind.u64.wrap n) (IntKind.u64.wrap n % 16).toNat rfl hb (by omega) w
end Go.Proofs.Ytoncmgkpfjkmgaa

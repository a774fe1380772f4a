/-
  full.
-/
import Derived.Test.YtegieoajjfodcaaGreatDoorSq
namespace Go.Proofs.YtegieoajjfodcaaGreatDoor
open Go.RowKit
set_option linter.unusedVariables false
/-- a table of which the places ahead of (a, b) are told -/
def MT (F : Nat → Nat → Int) (a b i j : Nat) : Int := if i < a ∨ (i = a ∧ j < b) then F i j else 0
theorem MT_zero (F : Nat → Nat → Int) (i j : Nat) : MT F 0 0 i j = 0 := by unfold MT; rw [if_neg (by omega)]
theorem MT_set (F : Nat → Nat → Int) (a b i j : Nat) : upd (MT F a b) a b (F a b) i j = MT F a (b + 1) i j := by
  unfold upd MT
  by_cases h : i = a ∧ j = b
  · rw [if_pos h, if_pos (by omega), h.1, h.2]
  · rw [if_neg h]
    by_cases q : i < a ∨ (i = a ∧ j < b)
    · rw [if_pos q, if_pos (by omega)]
    · rw [if_neg q, if_neg (by omega)]
theorem MT_skip (F : Nat → Nat → Int) (a b i j : Nat) (h : F a b = 0) : MT F a b i j = MT F a (b + 1) i j := by
  unfold MT
  by_cases q : i < a ∨ (i = a ∧ j < b)
  · rw [if_pos q, if_pos (by omega)]
  · rw [if_neg q]
    by_cases q2 : i < a ∨ (i = a ∧ j < b + 1)
    · rw [if_pos q2]
      obtain ⟨rfl, rfl⟩ : i = a ∧ j = b := by omega
      exact h.symm
    · rw [if_neg q2]
theorem MT_row (F : Nat → Nat → Int) (a n i j : Nat) (h : j < n) : MT F a n i j = MT F (a + 1) 0 i j := by
  unfold MT
  by_cases q : i < a ∨ (i = a ∧ j < n)
  · rw [if_pos q, if_pos (by omega)]
  · rw [if_neg q, if_neg (by omega)]
theorem MT_all (F : Nat → Nat → Int) (n i j : Nat) (h : i < n) : MT F n 0 i j = F i j := by unfold MT; rw [if_pos (by omega)]
attribute [irreducible] MT
/-- what full leaves at a place -/
def FF (T : List Tok) (s : St) (n i j : Nat) : Int := if i = j then 0 else vn (fE n) T s (i * n + j)
theorem fE_diag (n a : Nat) (h : a < n) (t : Tok) : fE n (a * n + a) t = zf t := by
  unfold fE
  rw [if_pos (by rw [show a * n + a = a * (n + 1) by rw [Nat.mul_succ]]; exact Nat.mul_mod_left a (n + 1))]
theorem fE_off (n a b : Nat) (ha : a < n) (hb : b < n) (h : ¬ a = b) (t : Tok) : fE n (a * n + b) t = eE t := by
  unfold fE
  rw [if_neg]
  intro e
  rcases Nat.lt_or_ge b a with q | q
  · have e2 : a * n + b = (n + 1) * (a - 1) + (n + 1 - (a - b)) := by
      obtain ⟨c, rfl⟩ : ∃ c, a = c + 1 := ⟨a - 1, by omega⟩
      rw [show c + 1 - 1 = c by omega, Nat.succ_mul, Nat.succ_mul, Nat.mul_comm c n]
      omega
    rw [e2, Nat.mul_add_mod, Nat.mod_eq_of_lt (by omega)] at e
    omega
  · have e2 : a * n + b = (n + 1) * a + (b - a) := by
      rw [Nat.succ_mul, Nat.mul_comm a n]
      omega
    rw [e2, Nat.mul_add_mod, Nat.mod_eq_of_lt (by omega)] at e
    omega
theorem fs_row {b g C : Nat} {T : List Tok} {B gc n : Nat} {gs : Nat → Nat} {s s' : St} {F : Nat → Nat → Int} {a : Nat} {w wr : World} (h : FS b g C T B gc n gs s (MT F a n) w wr) (hs : s = s') : FS b g C T B gc n gs s' (MT F (a + 1) 0) w wr := by
  subst hs
  exact h.congr (fun i j hi hj => MT_row F a n i j hj)
set_option maxRecDepth 100000 in
set_option maxHeartbeats 4000000 in
theorem full_s (b g C : Nat) (T : List Tok) (s : St) (n : Nat) (n2 : n ≤ 24) (B gc : Nat) (gs : Nat → Nat) (w : World) (hr : RS b g C T s w) (ht : TBL B gc n gs (fun _ _ => 0) w) (hB : B ≤ w.heap.size) :
    Calls Tryz.prog 81 #[.pointer (some ⟨b, 0, none⟩), .slice (some ⟨gc, 0, none⟩) n n] w fun r w' => r = .returned (.tuple #[]) ∧ FS b g C T B gc n gs (steps (fE n) T s (n * n)) (FF T s n) w w' := by
  have K1 : Hid (FS b g C T B gc n gs (steps (fE n) T s (0 * n)) (MT (FF T s n) 0 0) w w) := ⟨by rw [Nat.zero_mul]; exact hr, ht.congr (fun i j _ _ => (MT_zero _ i j).symm), Up.refl _ _ _, hB⟩
  clear hr ht hB
  go_enter Tryz.func81, Tryz.ntmps81
  go_wp2
  go_loopw [9] (fun i wr => ∃ (a : Nat), a ≤ n ∧ i = .int .i64 a ∧ Hid (FS b g C T B gc n gs (steps (fE n) T s (a * n)) (MT (FF T s n) a 0) w wr)) (fun i _ => n - (intOf i).toNat)
  case atStart => exact ⟨0, by omega, rfl, K1⟩
  case round =>
    clear K1
    obtain ⟨a, ha, rfl, HC⟩ := hrel
    by_cases hal : a < n
    · have q1 : (a : Int) < (n : Int) := by omega
      have q2 : (0 : Int) ≤ (a : Int) := by omega
      have c0 := HC.out.tb.rowAt hal
      have HK0 : Hid (FS b g C T B gc n gs (steps (fE n) T s (a * n + 0)) (MT (FF T s n) a 0) w wr) := HC
      clear HC
      go_wp2
      clear c0
      go_loopw [16] (fun i wr2 => ∃ c : Nat, c ≤ n ∧ i = .int .i64 c ∧ Hid (FS b g C T B gc n gs (steps (fE n) T s (a * n + c)) (MT (FF T s n) a c) w wr2)) (fun i _ => n - (intOf i).toNat)
      case atStart => exact ⟨0, by omega, rfl, HK0⟩
      case round =>
        clear HK0
        obtain ⟨c, hc, rfl, HK⟩ := hrel
        by_cases hcn : c < n
        · have q3 : (c : Int) < (n : Int) := by omega
          have q4 : (0 : Int) ≤ (c : Int) := by omega
          by_cases hac : a = c
          · subst hac
            have FN : Hid (∀ w1, RS b g C T (adv (steps (fE n) T s (a * n + a)) (zf (tk T (steps (fE n) T s (a * n + a)).p))) w1 → wr.grownBy w1 (some b) → FS b g C T B gc n gs (steps (fE n) T s (a * n + (a + 1))) (MT (FF T s n) a (a + 1)) w w1) := fun w1 h1 h2 => by
              have := HK.out.call h1 h2
              rw [← fE_diag n a hal] at this
              exact this.congr (fun i j _ _ => MT_skip _ _ _ _ _ (by unfold FF; rw [if_pos rfl]))
            have HX := Lib.hid (nought_s b g C T _ _ HK.out.rd)
            clear HK
            go_wp2_with fail
            refine HX.out.mono ?_
            rintro r w1 ⟨rfl, h1, h2⟩
            have HN := Lib.hid (FN.out w1 h1 h2)
            clear FN HX h1 h2
            go_wp2
            go_roundw
            case rel => exact ⟨a + 1, by omega, by go_num, HN⟩
            case measure => simp [intOf]; omega
          · have d0 : ((a : Int) == (c : Int)) = false := by simp; omega
            have FN : Hid (∀ w1, RS b g C T (adv (steps (fE n) T s (a * n + c)) (eE (tk T (steps (fE n) T s (a * n + c)).p))) w1 → wr.grownBy w1 (some b) → FS b g C T B gc n gs (steps (fE n) T s (a * n + c + 1)) (MT (FF T s n) a c) w w1) := fun w1 h1 h2 => by
              have := HK.out.call h1 h2
              rw [← fE_off n a c hal hcn hac] at this
              exact this
            have HX := Lib.hid (entry_s b g C T _ _ HK.out.rd)
            have HV : (tk T (steps (fE n) T s (a * n + c)).p).num = FF T s n a c := by unfold FF vn; rw [if_neg hac]
            rw [HV] at HX
            clear HK HV hac
            go_wp2_with fail
            refine HX.out.mono ?_
            rintro r w1 ⟨rfl, h1, h2⟩
            have HN := Lib.hid (FN.out w1 h1 h2)
            have c5 := HN.out.tb.cellAt hal hcn
            have f5 := HN.out.tb.frozen hal c
            have HN2 := Lib.hid ((HN.out.store hal hcn (FF T s n a c)).congr (fun i j _ _ => MT_set _ a c i j))
            clear FN HX h1 h2 HN
            go_wp2
            go_roundw
            case rel => exact ⟨c + 1, by omega, by go_num, HN2⟩
            case measure => simp [intOf]; omega
        · obtain rfl : c = n := by omega
          have HN := Lib.hid (fs_row HK.out (show _ = steps (fE c) T s ((a + 1) * c) by rw [Nat.succ_mul]))
          clear HK
          go_wp2
          go_roundw
          case rel => exact ⟨a + 1, by omega, by go_num, HN⟩
          case measure => simp [intOf]; omega
    · obtain rfl : a = n := by omega
      have FN := Lib.hid (HC.out.congr (fun i j hi _ => MT_all _ a i j hi))
      clear HC
      go_wp2
      exact bodyPost_end (results_none rfl _ _ _) rfl ⟨rfl, FN.out⟩
end Go.Proofs.YtegieoajjfodcaaGreatDoor

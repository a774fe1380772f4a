/-
  The insertion sort, with the comparison of function 126.
-/
import Derived.Test.YtlhpiikpmmlpeaaDoorOdStab
import Derived.BigRegion
namespace Go.Proofs.YtlhpiikpmmlpeaaDoor.od
open Go.RowKit
set_option linter.unusedVariables false
variable {N : Nat}
/-- what the comparison is asked -/
def Cmp126A (c : Int → Int → Int) (n : Nat) (p1 : Value) (B : Nat) (w0 : World) : Prop :=
  ∀ (x y : Int) (W : World), 0 ≤ x → x < n → 0 ≤ y → y < n → BT B w0 W → Calls Tryd.prog 52 #[.int .i64 x, .int .i64 y, p1] W fun e w' => e = .returned (.int .i64 (c x y)) ∧ Below W.heap.size W w'
set_option maxRecDepth 100000 in
set_option maxHeartbeats 4000000 in
theorem ins_anyA (c : Int → Int → Int) (hcb : ∀ x y, -1 ≤ c x y ∧ c x y ≤ 1) (B g n cap : Nat) (p1 : Value) (w0 : World) (hc : Cmp126A c N p1 B w0) (hn : n ≤ 1000) (hcap : n ≤ cap) (hcap2 : cap ≤ 9223372036854775807) (a b : Nat) (hab : a ≤ b) (hbn : b ≤ n) (l : List Int) (hr : Rng N n l) (w : World) (ho : OwS B g n cap l w0 w) :
    Calls Tryd.prog 95 #[.slice (some ⟨g, 0, none⟩) n cap, .int .i64 a, .int .i64 b, .func (.func 52) #[] #[p1]] w fun e w' => e = .returned (.tuple #[]) ∧ OwS B g n cap (insOut c a (b - (a + 1)) (a + 1) l) w0 w' := by
  have HC := Lib.hid hc
  have HO := Lib.hid ho
  have HR := Lib.hid hr
  have HB := Lib.hid hcb
  clear hc ho hr hcb
  go_enter Tryd.func95, Tryd.ntmps95
  go_wp2
  go_loopw [8] (fun i wr => ∃ (k : Nat) (l' : List Int), a + 1 ≤ k ∧ (k ≤ b ∨ k = a + 1) ∧ i = .int .i64 k ∧ Hid (insOut c a (b - (a + 1)) (a + 1) l = insOut c a (b - k) k l') ∧ Hid (Rng N n l') ∧ Hid (OwS B g n cap l' w0 wr)) (fun i _ => b - (intOf i).toNat)
  case atStart => exact ⟨a + 1, l, by omega, by omega, by go_num, rfl, HR, HO⟩
  case round =>
    clear HO HR
    obtain ⟨k, l', hk1, hk2, rfl, HE, HR, HO⟩ := hrel
    by_cases hlt : k < b
    · have hk3 : k ≤ n := by omega
      go_wp2
      go_loopw [9] (fun i wr => ∃ (j : Nat) (lj : List Int), a ≤ j ∧ j ≤ k ∧ i = .int .i64 j ∧ Hid (insIn c a k l' = insIn c a j lj) ∧ Hid (Rng N n lj) ∧ Hid (OwS B g n cap lj w0 wr)) (fun i _ => (intOf i).toNat)
      case atStart => exact ⟨k, l', by omega, by omega, rfl, rfl, HR, HO⟩
      case round =>
        clear HO HR
        obtain ⟨j, lj, hj1, hj2, rfl, HJ, HR, HO⟩ := hrel
        by_cases hj : a < j
        · obtain ⟨j, rfl⟩ : ∃ j', j = j' + 1 := ⟨j - 1, by omega⟩
          have hjn : j + 1 < n := by omega
          have e1 := HO.out.cell (j + 1) hjn
          have e2 := HO.out.cell j (by omega)
          obtain ⟨x1, x2⟩ := HR.out (j + 1) hjn
          obtain ⟨y1, y2⟩ := HR.out j (by omega)
          have HCm := Lib.hid (fun W (hb : BT B w0 W) => HC.out (nth lj (j + 1)) (nth lj j) W x1 x2 y1 y2 hb)
          have hcb := HB.out (nth lj (j + 1)) (nth lj j)
          have HSw := Lib.hid (HR.out.swp HO.out.1 j hjn)
          have hd : decide (a < j + 1) = true := by simp; omega
          have hd' : ((a : Int)) < (j : Int) + 1 := by omega
          have g1 : (0 : Int) ≤ (j : Int) + 1 := by omega
          have g2 : (j : Int) + 1 < (n : Int) := by omega
          have g3 : (0 : Int) ≤ (j : Int) := by omega
          have g4 : (j : Int) < (n : Int) := by omega
          have g5 : IntKind.i64.wrap ((j : Int) + 1 - 1) = (j : Int) := IntWalk.i64_in _ (by omega) |>.trans (by omega)
          have g6 : IntKind.i64.wrap (j : Int) = (j : Int) := IntWalk.i64_in _ (by omega)
          have g7 : ((j : Int) + 1).toNat = j + 1 := by omega
          have HOc := Lib.hid (fun (W : World) (h : OwS B g n cap lj w0 W) => And.intro (h.cell (j + 1) hjn) (h.cell j (by omega)))
          have HOf := Lib.hid (fun (W : World) (h : OwS B g n cap lj w0 W) => And.intro (h.frozen (j + 1)) (h.frozen j))
          have HOs := Lib.hid (fun (W : World) (h : OwS B g n cap lj w0 W) => h.swp j)
          by_cases hc : c (nth lj (j + 1)) (nth lj j) < 0
          · have HN := Lib.hid (HJ.out.trans (insIn_yes c a j lj (by omega) hc))
            generalize hcx : c (nth lj (j + 1)) (nth lj j) = cv at *
            clear hcx
            generalize hx : nth lj (j + 1) = x at *
            generalize hy : nth lj j = y at *
            clear hx hy
            go_wp2
            go_region_held3 (fun w' => w'.cell? ⟨g, j + 1, none⟩ = some (.int .i64 x) ∧ w'.cell? ⟨g, j, none⟩ = some (.int .i64 y)) (first | exact ⟨e1, e2⟩ | exact ⟨f1, f2⟩)
              (first
                | (go_at_call 52; refine (HCm.out _ (HO.out.keep (bl_drew _)).2.2.2).mono ?_; rintro e w2 ⟨rfl, hb2⟩; have HO2 := Lib.hid (HO.out.keep (bl_undr hb2)); obtain ⟨f1, f2⟩ := HOc.out _ HO2.out; clear hb2))
            clear e1 e2
            obtain ⟨f1, f2⟩ := HOc.out _ HO2.out
            obtain ⟨z1, z2⟩ := HOf.out _ HO2.out
            go_wp2
            go_region
            all_goals
              go_wp2
              go_roundw
              case rel => exact ⟨j, swp lj j, by omega, by omega, by go_num, HN, HSw, (HOs.out _ HO2.out).keep (bl_drew _)⟩
              case measure => simp [intOf]
          · have HN := Lib.hid (HJ.out.trans (insIn_no c a j lj (fun h => hc h.2)))
            generalize hcx : c (nth lj (j + 1)) (nth lj j) = cv at *
            clear hcx
            generalize hx : nth lj (j + 1) = x at *
            generalize hy : nth lj j = y at *
            clear hx hy
            go_wp2
            go_region_held3 (fun w' => w'.cell? ⟨g, j + 1, none⟩ = some (.int .i64 x) ∧ w'.cell? ⟨g, j, none⟩ = some (.int .i64 y)) (first | exact ⟨e1, e2⟩ | exact ⟨f1, f2⟩)
              (first
                | (go_at_call 52; refine (HCm.out _ (HO.out.keep (bl_drew _)).2.2.2).mono ?_; rintro e w2 ⟨rfl, hb2⟩; have HO2 := Lib.hid (HO.out.keep (bl_undr hb2)); obtain ⟨f1, f2⟩ := HOc.out _ HO2.out; clear hb2))
            clear e1 e2
            go_wp2
            go_roundw
            case rel => exact ⟨k + 1, lj, by omega, by omega, by go_num, HE.out.trans (by rw [show b - k = (b - (k + 1)) + 1 by omega, insOut_succ, HN.out]), HR, HO2⟩
            case measure => simp [intOf]; omega
        · obtain rfl : a = j := by omega
          have HN := Lib.hid (HJ.out.trans (insIn_low c a a lj (Nat.le_refl _)))
          have hd : decide (a < a) = false := by simp
          have hd2 : decide ((a : Int) < a) = false := by simp
          go_wp2
          go_quiet (fail)
          go_wp2
          go_roundw
          case rel => exact ⟨k + 1, lj, by omega, by omega, by go_num, HE.out.trans (by rw [show b - k = (b - (k + 1)) + 1 by omega, insOut_succ, HN.out]), HR, (HO.out.keep ⟨rfl, rfl, rfl, Nat.le_refl _, fun _ _ => rfl⟩)⟩
          case measure => simp [intOf]; omega
    · have hE : insOut c a (b - (a + 1)) (a + 1) l = l' := HE.out.trans (by rw [show b - k = 0 by omega, insOut_zero])
      have HEh := Lib.hid hE
      clear hE HE
      go_wp2
      go_end0
      exact ⟨rfl, by rw [HEh.out]; exact HO.out⟩
end Go.Proofs.YtlhpiikpmmlpeaaDoor.od

/-
  Insertion sort of a list of records.
-/
import Derived.Test.YtgldgilhegdpjaaSoO
import Derived.BigRegion
import Derived.BigQuiet
import Derived.Deep.QuietTactic
import Derived.Deep.RegionHeld3
import Derived.Deep.RegionWith
import Derived.LoopTactic
import Derived.IntWalk
namespace Go.Proofs.Ytgldgilhegdpjaa.so
open Go.RowKit
set_option linter.unusedVariables false
variable {TB : Tb}

def swp (l : List Int) (j : Nat) : List Int := (l.set (j + 1) (nth l j)).set j (nth l (j + 1))
def insIn (c : Int → Int → Int) (a : Nat) : Nat → List Int → List Int
  | 0, l => l
  | j + 1, l => if a ≤ j ∧ c (nth l (j + 1)) (nth l j) < 0 then insIn c a j (swp l j) else l
def insOut (c : Int → Int → Int) (a : Nat) : Nat → Nat → List Int → List Int
  | 0, i, l => l
  | b + 1, i, l => insOut c a b (i + 1) (insIn c a i l)
theorem insIn_yes (c : Int → Int → Int) (a j : Nat) (l : List Int) (h1 : a ≤ j) (h2 : c (nth l (j + 1)) (nth l j) < 0) : insIn c a (j + 1) l = insIn c a j (swp l j) := by simp only [insIn]; rw [if_pos ⟨h1, h2⟩]
theorem insIn_no (c : Int → Int → Int) (a j : Nat) (l : List Int) (h : ¬ (a ≤ j ∧ c (nth l (j + 1)) (nth l j) < 0)) : insIn c a (j + 1) l = l := by simp only [insIn]; rw [if_neg h]
theorem insIn_low (c : Int → Int → Int) (a j : Nat) (l : List Int) (h : j ≤ a) : insIn c a j l = l := by
  cases j with
  | zero => rfl
  | succ j => exact insIn_no c a j l (fun hh => by omega)
theorem insOut_zero (c : Int → Int → Int) (a i : Nat) (l : List Int) : insOut c a 0 i l = l := rfl
theorem insOut_succ (c : Int → Int → Int) (a b i : Nat) (l : List Int) : insOut c a (b + 1) i l = insOut c a b (i + 1) (insIn c a i l) := rfl
def Rng (n : Nat) (l : List Int) : Prop := ∀ j, j < n → 0 ≤ nth l j ∧ nth l j < n
theorem Rng.swp {n : Nat} {l : List Int} (h : Rng n l) (hl : l.length = n) (j : Nat) (hj : j + 1 < n) : Rng n (swp l j) := fun i hi => by
  unfold so.swp
  rw [nth_set _ _ _ _ (by simp; omega), nth_set _ _ _ _ (by omega)]
  split
  · exact h _ (by omega)
  · split
    · exact h _ (by omega)
    · exact h _ hi
theorem insIn_len (c : Int → Int → Int) (a : Nat) : ∀ j (l : List Int), (insIn c a j l).length = l.length
  | 0, l => rfl
  | j + 1, l => by
    simp only [insIn]
    split
    · rw [insIn_len c a j]; unfold swp; simp
    · rfl
theorem Own.swp {B g n cap : Nat} {l : List Int} {w0 wr : World} (h : Own TB B g n cap l w0 wr) (j : Nat) : Own TB B g n cap (swp l j) w0 ((((wr.setCell ⟨g, (j + 1) * 2, none⟩ (.int .i64 (TB.k (nth l j)))).setCell ⟨g, (j + 1) * 2 + 1, none⟩ (.slice (TB.a (nth l j)) (TB.n (nth l j)) (TB.c (nth l j)))).setCell ⟨g, j * 2, none⟩ (.int .i64 (TB.k (nth l (j + 1))))).setCell ⟨g, j * 2 + 1, none⟩ (.slice (TB.a (nth l (j + 1))) (TB.n (nth l (j + 1))) (TB.c (nth l (j + 1))))) :=
  (h.set (j + 1) (nth l j)).set j (nth l (j + 1))
attribute [irreducible] insIn insOut swp
/-- what the comparison is asked -/
def Cmp26 (TB : Tb) (c : Int → Int → Int) (n : Nat) (g : Nat) (w0 : World) : Prop :=
  ∀ (x y : Int) (W : World), 0 ≤ x → x < n → 0 ≤ y → y < n → Tw [g] w0 W → Calls Try.prog 21 #[.agg #[.int .i64 (TB.k x), (.slice (TB.a x) (TB.n x) (TB.c x))], .agg #[.int .i64 (TB.k y), (.slice (TB.a y) (TB.n y) (TB.c y))]] W fun e w' => e = .returned (.int .i64 (c x y)) ∧ Below W.heap.size W w'
set_option maxRecDepth 100000 in
set_option maxHeartbeats 4000000 in
theorem ins26_any (c : Int → Int → Int) (hcb : ∀ x y, -1 ≤ c x y ∧ c x y ≤ 1) (B g n cap : Nat) (w0 : World) (hc : Cmp26 TB c n g w0) (hn : n ≤ 1000) (hcap : n ≤ cap) (hcap2 : cap ≤ 9223372036854775807) (a b : Nat) (hab : a ≤ b) (hbn : b ≤ n) (l : List Int) (hr : Rng n l) (w : World) (ho : Own TB B g n cap l w0 w) :
    Calls Try.prog 26 #[.slice (some ⟨g, 0, none⟩) n cap, .int .i64 a, .int .i64 b, .func (.func 21) #[] #[]] w fun e w' => e = .returned (.tuple #[]) ∧ Own TB B g n cap (insOut c a (b - (a + 1)) (a + 1) l) w0 w' := by
  have HC := Lib.hid hc
  have HO := Lib.hid ho
  have HR := Lib.hid hr
  have HB := Lib.hid hcb
  clear hc ho hr hcb
  go_enter Try.func26, Try.ntmps26
  go_wp2
  go_loopw [8] (fun i wr => ∃ (k : Nat) (l' : List Int), a + 1 ≤ k ∧ (k ≤ b ∨ k = a + 1) ∧ i = .int .i64 k ∧ Hid (insOut c a (b - (a + 1)) (a + 1) l = insOut c a (b - k) k l') ∧ Hid (Rng n l') ∧ Hid (Own TB B g n cap l' w0 wr)) (fun i _ => b - (intOf i).toNat)
  case atStart => exact ⟨a + 1, l, by omega, by omega, by go_num, rfl, HR, HO⟩
  case round =>
    clear HO HR
    obtain ⟨k, l', hk1, hk2, rfl, HE, HR, HO⟩ := hrel
    by_cases hlt : k < b
    · have hk3 : k ≤ n := by omega
      go_wp2
      go_loopw [9] (fun i wr => ∃ (j : Nat) (lj : List Int), a ≤ j ∧ j ≤ k ∧ i = .int .i64 j ∧ Hid (insIn c a k l' = insIn c a j lj) ∧ Hid (Rng n lj) ∧ Hid (Own TB B g n cap lj w0 wr)) (fun i _ => (intOf i).toNat)
      case atStart => exact ⟨k, l', by omega, by omega, rfl, rfl, HR, HO⟩
      case round =>
        clear HO HR
        obtain ⟨j, lj, hj1, hj2, rfl, HJ, HR, HO⟩ := hrel
        by_cases hj : a < j
        · obtain ⟨j, rfl⟩ : ∃ j', j = j' + 1 := ⟨j - 1, by omega⟩
          have hjn : j + 1 < n := by omega
          obtain ⟨e1, e1b⟩ := HO.out.cell (j + 1) hjn
          obtain ⟨e2, e2b⟩ := HO.out.cell j (by omega)
          obtain ⟨x1, x2⟩ := HR.out (j + 1) hjn
          obtain ⟨y1, y2⟩ := HR.out j (by omega)
          have HCm := Lib.hid (fun W (hb : Tw [g] w0 W) => HC.out (nth lj (j + 1)) (nth lj j) W x1 x2 y1 y2 hb)
          have hcb := HB.out (nth lj (j + 1)) (nth lj j)
          have HSw := Lib.hid (HR.out.swp HO.out.1 j hjn)
          have hd : decide (a < j + 1) = true := by simp; omega
          have hd' : ((a : Int)) < (j : Int) + 1 := by omega
          have g1 : (0 : Int) ≤ (j : Int) + 1 := by omega
          have g2 : (j : Int) + 1 < (n : Int) := by omega
          have g3 : (0 : Int) ≤ (j : Int) := by omega
          have g4 : (j : Int) < (n : Int) := by omega
          have g5 : IntKind.i64.wrap ((j : Int) + 1 - 1) = (j : Int) := IntWalk.i64_in _ (by omega) |>.trans (by omega)
          have g6 : IntKind.i64.wrap (j : Int) = (j : Int) := IntWalk.i64_in _ (by omega)
          have g7 : ((j : Int) + 1).toNat = j + 1 := by omega
          have HOc := Lib.hid (fun (W : World) (h : Own TB B g n cap lj w0 W) => And.intro (h.cell (j + 1) hjn) (h.cell j (by omega)))
          have HOf := Lib.hid (fun (W : World) (h : Own TB B g n cap lj w0 W) => And.intro (And.intro (h.frozen ((j + 1) * 2)) (h.frozen ((j + 1) * 2 + 1))) (And.intro (h.frozen (j * 2)) (h.frozen (j * 2 + 1))))
          have HOs := Lib.hid (fun (W : World) (h : Own TB B g n cap lj w0 W) => h.swp j)
          by_cases hc : c (nth lj (j + 1)) (nth lj j) < 0
          · have HN := Lib.hid (HJ.out.trans (insIn_yes c a j lj (by omega) hc))
            generalize hcx : c (nth lj (j + 1)) (nth lj j) = cv at *
            clear hcx
            generalize hx : nth lj (j + 1) = x at *
            generalize hy : nth lj j = y at *
            clear hx hy
            go_wp2
            go_region_held3 (fun w' => w'.cell? ⟨g, (j + 1) * 2, none⟩ = some (.int .i64 (TB.k x)) ∧ w'.cell? ⟨g, (j + 1) * 2 + 1, none⟩ = some (.slice (TB.a x) (TB.n x) (TB.c x)) ∧ w'.cell? ⟨g, j * 2, none⟩ = some (.int .i64 (TB.k y)) ∧ w'.cell? ⟨g, j * 2 + 1, none⟩ = some (.slice (TB.a y) (TB.n y) (TB.c y))) (first | exact ⟨e1, e1b, e2, e2b⟩ | exact ⟨f1, f1b, f2, f2b⟩)
              (first
                | (go_at_call 21; refine (HCm.out _ (HO.out.keep (bl_drew _)).2.2.2).mono ?_; rintro e w2 ⟨rfl, hb2⟩; have HO2 := Lib.hid (HO.out.keep (bl_undr hb2)); obtain ⟨⟨f1, f1b⟩, f2, f2b⟩ := HOc.out _ HO2.out; clear hb2))
            clear e1 e1b e2 e2b
            obtain ⟨⟨f1, f1b⟩, f2, f2b⟩ := HOc.out _ HO2.out
            obtain ⟨⟨z1, z1b⟩, z2, z2b⟩ := HOf.out _ HO2.out
            go_wp2
            go_region
            all_goals
              go_wp2
              go_roundw
              case rel => exact ⟨j, swp lj j, by omega, by omega, by go_num, HN, HSw, (HOs.out _ HO2.out).keep (bl_drew _)⟩
              case measure => simp [intOf]
          · have HN := Lib.hid (HJ.out.trans (insIn_no c a j lj (fun h => hc h.2)))
            generalize hcx : c (nth lj (j + 1)) (nth lj j) = cv at *
            clear hcx
            generalize hx : nth lj (j + 1) = x at *
            generalize hy : nth lj j = y at *
            clear hx hy
            go_wp2
            go_region_held3 (fun w' => w'.cell? ⟨g, (j + 1) * 2, none⟩ = some (.int .i64 (TB.k x)) ∧ w'.cell? ⟨g, (j + 1) * 2 + 1, none⟩ = some (.slice (TB.a x) (TB.n x) (TB.c x)) ∧ w'.cell? ⟨g, j * 2, none⟩ = some (.int .i64 (TB.k y)) ∧ w'.cell? ⟨g, j * 2 + 1, none⟩ = some (.slice (TB.a y) (TB.n y) (TB.c y))) (first | exact ⟨e1, e1b, e2, e2b⟩ | exact ⟨f1, f1b, f2, f2b⟩)
              (first
                | (go_at_call 21; refine (HCm.out _ (HO.out.keep (bl_drew _)).2.2.2).mono ?_; rintro e w2 ⟨rfl, hb2⟩; have HO2 := Lib.hid (HO.out.keep (bl_undr hb2)); obtain ⟨⟨f1, f1b⟩, f2, f2b⟩ := HOc.out _ HO2.out; clear hb2))
            clear e1 e1b e2 e2b
            go_wp2
            go_roundw
            case rel => exact ⟨k + 1, lj, by omega, by omega, by go_num, HE.out.trans (by rw [show b - k = (b - (k + 1)) + 1 by omega, insOut_succ, HN.out]), HR, HO2⟩
            case measure => simp [intOf]; omega
        · obtain rfl : a = j := by omega
          have HN := Lib.hid (HJ.out.trans (insIn_low c a a lj (Nat.le_refl _)))
          have hd : decide (a < a) = false := by simp
          have hd2 : decide ((a : Int) < a) = false := by simp
          go_wp2
          go_quiet (fail)
          go_wp2
          go_roundw
          case rel => exact ⟨k + 1, lj, by omega, by omega, by go_num, HE.out.trans (by rw [show b - k = (b - (k + 1)) + 1 by omega, insOut_succ, HN.out]), HR, (HO.out.keep ⟨rfl, rfl, rfl, Nat.le_refl _, fun _ _ => rfl⟩)⟩
          case measure => simp [intOf]; omega
    · have hE : insOut c a (b - (a + 1)) (a + 1) l = l' := HE.out.trans (by rw [show b - k = 0 by omega, insOut_zero])
      have HEh := Lib.hid hE
      clear hE HE
      go_wp2
      go_end0
      exact ⟨rfl, by rw [HEh.out]; exact HO.out⟩
end Go.Proofs.Ytgldgilhegdpjaa.so

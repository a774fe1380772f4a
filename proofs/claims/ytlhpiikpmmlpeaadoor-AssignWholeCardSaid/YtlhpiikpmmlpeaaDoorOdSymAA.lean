/-
  symMerge of a half of one number, with the comparison of function 126.
-/
import Derived.Test.YtlhpiikpmmlpeaaDoorOdInsA
import Derived.Laws.ShiftsVar
namespace Go.Proofs.YtlhpiikpmmlpeaaDoor.od
open Go.RowKit
set_option linter.unusedVariables false
variable {N : Nat}
set_option maxRecDepth 100000 in
set_option maxHeartbeats 4000000 in
theorem symAA (c : Int → Int → Int) (hcb : ∀ x y, -1 ≤ c x y ∧ c x y ≤ 1) (B g n cap : Nat) (p1 : Value) (w0 : World) (hc : Cmp126A c N p1 B w0) (hn : n ≤ 1000) (hcap : n ≤ cap) (hcap2 : cap ≤ 9223372036854775807) (a m b : Nat) (hm : m = a + 1) (hmb : m < b) (hbn : b ≤ n) (l : List Int) (hr : Rng N n l) (w : World) (ho : OwS B g n cap l w0 w) :
    Calls Tryd.prog 96 #[.slice (some ⟨g, 0, none⟩) n cap, .int .i64 a, .int .i64 m, .int .i64 b, .func (.func 52) #[] #[p1]] w fun e w' => e = .returned (.tuple #[]) ∧
      ∃ (T : List Int) (i : Nat), m ≤ i ∧ i ≤ b ∧ (m < i → c (nth l (i - 1)) (nth l a) < 0) ∧ (i < b → ¬ c (nth l i) (nth l a) < 0) ∧ RotM T l m 1 (i - m) ∧ OwS B g n cap T w0 w' := by
  have HC := Lib.hid hc
  have HO := Lib.hid ho
  have HR := Lib.hid hr
  have HB := Lib.hid hcb
  have hll := ho.1
  have HU := Lib.hid (fun (cur : List Int) (j : Nat) => rot_up (cur := cur) (l := l) (a := a) (j := j))
  have HS0 := Lib.hid (rot_start l m 1 0 (Or.inr rfl))
  have g0 : (m : Int) - (a : Int) = 1 := by omega
  have Hm := Lib.hid hm
  obtain ⟨P, hP⟩ : ∃ P : Nat → Prop, ∀ i, P i ↔ c (nth l i) (nth l a) < 0 := ⟨_, fun _ => Iff.rfl⟩
  have HP := Lib.hid hP
  clear hc ho hr hcb hm hP
  go_enter Tryd.func96, Tryd.ntmps96
  go_wp2
  go_loopw [10, 11] (fun i j wr => ∃ (x y : Nat), m ≤ x ∧ x ≤ y ∧ y ≤ b ∧ i = .int .i64 x ∧ j = .int .i64 y ∧ Hid (m < x → P (x - 1)) ∧ Hid (y < b → ¬ P y) ∧ Hid (OwS B g n cap l w0 wr)) (fun i j _ => (intOf j).toNat - (intOf i).toNat)
  case atStart => exact ⟨m, b, Nat.le_refl _, by omega, Nat.le_refl _, rfl, rfl, fun h => by omega, fun h => by omega, HO⟩
  case round =>
    clear HO
    obtain ⟨x, y, hx, hxy, hy, rfl, rfl, H1, H2, HO⟩ := hrel
    by_cases hlt : x < y
    · obtain ⟨h, hh⟩ : ∃ h, h = (x + y) / 2 := ⟨_, rfl⟩
      have u1 : IntKind.u64.wrap ((x : Int) + (y : Int)) = (x : Int) + (y : Int) := IntWalk.u64_in _ (by omega)
      have u2 : ((x : Int) + (y : Int)) / 2 = (h : Int) := by omega
      have e1 := HO.out.cell h (by omega)
      have e2 := HO.out.cell a (by have := Hm.out; omega)
      obtain ⟨x1, x2⟩ := HR.out h (by omega)
      obtain ⟨y1, y2⟩ := HR.out a (by have := Hm.out; omega)
      have HCm := Lib.hid (fun W (hb : BT B w0 W) => HC.out (nth l h) (nth l a) W x1 x2 y1 y2 hb)
      have hcb := HB.out (nth l h) (nth l a)
      have HOc := Lib.hid (fun (W : World) (q : OwS B g n cap l w0 W) => And.intro (q.cell h (by omega)) (q.cell a (by have := Hm.out; omega)))
      have k1 : (h : Int) < (n : Int) := by omega
      have k2 : (a : Int) < (n : Int) := by have := Hm.out; omega
      have xh : x ≤ h := by omega
      have hy2 : h < y := by omega
      clear hh
      by_cases hc : c (nth l h) (nth l a) < 0
      · have H1' : Hid (m < h + 1 → P (h + 1 - 1)) := fun _ => (HP.out h).2 hc
        generalize hcx : c (nth l h) (nth l a) = cv at *
        clear hcx
        generalize nth l h = vx at *
        generalize nth l a = vy at *
        go_wp2
        go_shifts
        go_wp2
        go_region_held3 (fun w' => w'.cell? ⟨g, h, none⟩ = some (.int .i64 vx) ∧ w'.cell? ⟨g, a, none⟩ = some (.int .i64 vy)) (first | exact ⟨e1, e2⟩ | exact ⟨f1, f2⟩)
          (first
            | (go_at_call 52; refine (HCm.out _ (HO.out.keep (bl_drew _)).2.2.2).mono ?_; rintro e w2 ⟨rfl, hb2⟩; have HO2 := Lib.hid (HO.out.keep (bl_undr hb2)); obtain ⟨f1, f2⟩ := HOc.out _ HO2.out; clear hb2))
        clear e1 e2
        go_wp2
        go_roundw
        case rel => exact ⟨h + 1, y, by omega, by omega, hy, by go_num, rfl, H1', H2, HO2⟩
        case measure => simp [intOf]; omega
      · have H2' : Hid (h < b → ¬ P h) := fun _ q => hc ((HP.out h).1 q)
        generalize hcx : c (nth l h) (nth l a) = cv at *
        clear hcx
        generalize nth l h = vx at *
        generalize nth l a = vy at *
        go_wp2
        go_shifts
        go_wp2
        go_region_held3 (fun w' => w'.cell? ⟨g, h, none⟩ = some (.int .i64 vx) ∧ w'.cell? ⟨g, a, none⟩ = some (.int .i64 vy)) (first | exact ⟨e1, e2⟩ | exact ⟨f1, f2⟩)
          (first
            | (go_at_call 52; refine (HCm.out _ (HO.out.keep (bl_drew _)).2.2.2).mono ?_; rintro e w2 ⟨rfl, hb2⟩; have HO2 := Lib.hid (HO.out.keep (bl_undr hb2)); obtain ⟨f1, f2⟩ := HOc.out _ HO2.out; clear hb2))
        clear e1 e2
        go_wp2
        go_roundw
        case rel => exact ⟨x, h, by omega, by omega, by omega, rfl, rfl, H1, H2', HO2⟩
        case measure => simp [intOf]; omega
    · obtain rfl : x = y := by omega
      have i1 : (x : Int) - 1 = ((x - 1 : Nat) : Int) := by omega
      go_wp2
      go_loopw [13] (fun k wr => ∃ (j : Nat) (cur : List Int), a + j ≤ x - 1 ∧ k = .int .i64 (a + j : Nat) ∧ Hid (RotM cur l m 1 j) ∧ Hid (OwS B g n cap cur w0 wr)) (fun k _ => x - 1 - (intOf k).toNat)
      case atStart => exact ⟨0, l, by have := Hm.out; omega, rfl, HS0, HO⟩
      case round =>
        clear HO
        obtain ⟨j, cur, hj, rfl, HT, HO⟩ := hrel
        by_cases hl2 : a + j < x - 1
        · obtain ⟨k, hk⟩ : ∃ k, a + j = k := ⟨_, rfl⟩
          rw [hk] at hl2 ⊢
          have e1 := HO.out.cell k (by omega)
          have e2 := HO.out.cell (k + 1) (by omega)
          have f1 := HO.out.frozen k
          have f2 := HO.out.frozen (k + 1)
          have HN : Hid (∀ W, OwS B g n cap cur w0 W → OwS B g n cap (sw cur k (k + 1)) w0 ((W.setCell ⟨g, k, none⟩ (.int .i64 (nth cur (k + 1)))).setCell ⟨g, k + 1, none⟩ (.int .i64 (nth cur k)))) := fun W q => q.sw k (k + 1)
          have HT' : Hid (RotM (sw cur k (k + 1)) l m 1 (j + 1)) := by
            have := HT.out
            show RotM _ _ _ _ _
            rw [Hm.out] at this ⊢
            rw [← hk]; exact HU.out cur j this (by have := HO.out.1; omega)
          have g3 : (0 : Int) ≤ (k : Int) + 1 := by omega
          have g4 : (k : Int) + 1 < (n : Int) := by omega
          have g7 : ((k : Int) + 1).toNat = k + 1 := by omega
          have g8 : (k : Int) < (n : Int) := by omega
          generalize nth cur (k + 1) = vy at *
          generalize nth cur k = vx at *
          go_wp2
          go_region
          all_goals
            go_wp2
            go_roundw
            case rel => exact ⟨j + 1, _, by omega, by rw [show a + (j + 1) = k + 1 by omega]; go_num, HT', (HN.out _ HO.out).keep (bl_drew _)⟩
            case measure => simp [intOf]; omega
        · have hj2 : j = x - m := by have := Hm.out; omega
          have hq : ¬ ((a + j : Nat) : Int) < ((x - 1 : Nat) : Int) := by omega
          go_wp2
          refine bodyPost_ret (results_none rfl _ _ _) rfl ?_
          exact ⟨rfl, cur, x, hx, hy, fun q => (HP.out _).1 (H1.out q), fun q => by have := H2.out q; rw [HP.out] at this; omega, by rw [← hj2]; exact HT.out, HO.out⟩
set_option maxRecDepth 100000 in
set_option maxHeartbeats 4000000 in
theorem symBA (c : Int → Int → Int) (hcb : ∀ x y, -1 ≤ c x y ∧ c x y ≤ 1) (B g n cap : Nat) (p1 : Value) (w0 : World) (hc : Cmp126A c N p1 B w0) (hn : n ≤ 1000) (hcap : n ≤ cap) (hcap2 : cap ≤ 9223372036854775807) (a m b : Nat) (hm : b = m + 1) (hma : a + 1 < m) (hbn : b ≤ n) (l : List Int) (hr : Rng N n l) (w : World) (ho : OwS B g n cap l w0 w) :
    Calls Tryd.prog 96 #[.slice (some ⟨g, 0, none⟩) n cap, .int .i64 a, .int .i64 m, .int .i64 b, .func (.func 52) #[] #[p1]] w fun e w' => e = .returned (.tuple #[]) ∧
      ∃ (T : List Int) (i : Nat), a ≤ i ∧ i ≤ m ∧ (a < i → ¬ c (nth l m) (nth l (i - 1)) < 0) ∧ (i < m → c (nth l m) (nth l i) < 0) ∧ RotM T l m (m - i) 1 ∧ OwS B g n cap T w0 w' := by
  have HC := Lib.hid hc
  have HO := Lib.hid ho
  have HR := Lib.hid hr
  have HB := Lib.hid hcb
  have hll := ho.1
  have HU := Lib.hid (fun (cur : List Int) (k i : Nat) => rot_dn (cur := cur) (l := l) (k := k) (i := i))
  have HS0 := Lib.hid (rot_start l m 0 1 (Or.inl rfl))
  have g0 : (b : Int) - (m : Int) = 1 := by omega
  have g1 : ((m : Int) - (a : Int) == 1) = false := by simp; omega
  have Hm := Lib.hid hm
  obtain ⟨P, hP⟩ : ∃ P : Nat → Prop, ∀ i, P i ↔ c (nth l m) (nth l i) < 0 := ⟨_, fun _ => Iff.rfl⟩
  have HP := Lib.hid hP
  clear hc ho hr hcb hm hP
  go_enter Tryd.func96, Tryd.ntmps96
  go_wp2
  go_loopw [14, 15] (fun i j wr => ∃ (x y : Nat), a ≤ x ∧ x ≤ y ∧ y ≤ m ∧ i = .int .i64 x ∧ j = .int .i64 y ∧ Hid (a < x → ¬ P (x - 1)) ∧ Hid (y < m → P y) ∧ Hid (OwS B g n cap l w0 wr)) (fun i j _ => (intOf j).toNat - (intOf i).toNat)
  case atStart => exact ⟨a, m, Nat.le_refl _, by omega, Nat.le_refl _, rfl, rfl, fun h => by omega, fun h => by omega, HO⟩
  case round =>
    clear HO
    obtain ⟨x, y, hx, hxy, hy, rfl, rfl, H1, H2, HO⟩ := hrel
    by_cases hlt : x < y
    · obtain ⟨h, hh⟩ : ∃ h, h = (x + y) / 2 := ⟨_, rfl⟩
      have u1 : IntKind.u64.wrap ((x : Int) + (y : Int)) = (x : Int) + (y : Int) := IntWalk.u64_in _ (by omega)
      have u2 : ((x : Int) + (y : Int)) / 2 = (h : Int) := by omega
      have e1 := HO.out.cell h (by omega)
      have e2 := HO.out.cell m (by have := Hm.out; omega)
      obtain ⟨x1, x2⟩ := HR.out h (by omega)
      obtain ⟨y1, y2⟩ := HR.out m (by have := Hm.out; omega)
      have HCm := Lib.hid (fun W (hb : BT B w0 W) => HC.out (nth l m) (nth l h) W y1 y2 x1 x2 hb)
      have hcb := HB.out (nth l m) (nth l h)
      have HOc := Lib.hid (fun (W : World) (q : OwS B g n cap l w0 W) => And.intro (q.cell h (by omega)) (q.cell m (by have := Hm.out; omega)))
      have k1 : (h : Int) < (n : Int) := by omega
      have k2 : (m : Int) < (n : Int) := by have := Hm.out; omega
      have xh : x ≤ h := by omega
      have hy2 : h < y := by omega
      clear hh
      by_cases hc : c (nth l m) (nth l h) < 0
      · have H2' : Hid (h < m → P h) := fun _ => (HP.out h).2 hc
        generalize hcx : c (nth l m) (nth l h) = cv at *
        clear hcx
        generalize nth l h = vx at *
        generalize nth l m = vy at *
        go_wp2
        go_shifts
        go_wp2
        go_region_held3 (fun w' => w'.cell? ⟨g, h, none⟩ = some (.int .i64 vx) ∧ w'.cell? ⟨g, m, none⟩ = some (.int .i64 vy)) (first | exact ⟨e1, e2⟩ | exact ⟨f1, f2⟩)
          (first
            | (go_at_call 52; refine (HCm.out _ (HO.out.keep (bl_drew _)).2.2.2).mono ?_; rintro e w2 ⟨rfl, hb2⟩; have HO2 := Lib.hid (HO.out.keep (bl_undr hb2)); obtain ⟨f1, f2⟩ := HOc.out _ HO2.out; clear hb2))
        clear e1 e2
        go_wp2
        go_roundw
        case rel => exact ⟨x, h, by omega, by omega, by omega, rfl, rfl, H1, H2', HO2⟩
        case measure => simp [intOf]; omega
      · have H1' : Hid (a < h + 1 → ¬ P (h + 1 - 1)) := fun _ q => hc ((HP.out h).1 q)
        generalize hcx : c (nth l m) (nth l h) = cv at *
        clear hcx
        generalize nth l h = vx at *
        generalize nth l m = vy at *
        go_wp2
        go_shifts
        go_wp2
        go_region_held3 (fun w' => w'.cell? ⟨g, h, none⟩ = some (.int .i64 vx) ∧ w'.cell? ⟨g, m, none⟩ = some (.int .i64 vy)) (first | exact ⟨e1, e2⟩ | exact ⟨f1, f2⟩)
          (first
            | (go_at_call 52; refine (HCm.out _ (HO.out.keep (bl_drew _)).2.2.2).mono ?_; rintro e w2 ⟨rfl, hb2⟩; have HO2 := Lib.hid (HO.out.keep (bl_undr hb2)); obtain ⟨f1, f2⟩ := HOc.out _ HO2.out; clear hb2))
        clear e1 e2
        go_wp2
        go_roundw
        case rel => exact ⟨h + 1, y, by omega, by omega, hy, by go_num, rfl, H1', H2, HO2⟩
        case measure => simp [intOf]; omega
        all_goals (exfalso; rename_i hh; simp at hh; omega)
    · obtain rfl : x = y := by omega
      go_wp2
      go_loopw [17] (fun k wr => ∃ (q i : Nat) (cur : List Int), q + i = m ∧ x ≤ q ∧ k = .int .i64 q ∧ Hid (RotM cur l m i 1) ∧ Hid (OwS B g n cap cur w0 wr)) (fun k _ => (intOf k).toNat)
      case atStart => exact ⟨m, 0, l, rfl, by omega, rfl, HS0, HO⟩
      case round =>
        clear HO
        obtain ⟨q, i, cur, hqi, hq, rfl, HT, HO⟩ := hrel
        by_cases hl2 : x < q
        · obtain ⟨k, rfl⟩ : ∃ k, q = k + 1 := ⟨q - 1, by omega⟩
          have e1 := HO.out.cell k (by have := Hm.out; omega)
          have e2 := HO.out.cell (k + 1) (by have := Hm.out; omega)
          have f1 := HO.out.frozen k
          have f2 := HO.out.frozen (k + 1)
          have HN : Hid (∀ W, OwS B g n cap cur w0 W → OwS B g n cap (sw cur (k + 1) k) w0 ((W.setCell ⟨g, k + 1, none⟩ (.int .i64 (nth cur k))).setCell ⟨g, k, none⟩ (.int .i64 (nth cur (k + 1))))) := fun W q => q.sw (k + 1) k
          have HT' : Hid (RotM (sw cur (k + 1) k) l m (i + 1) 1) := by
            have := HT.out
            show RotM _ _ _ _ _
            rw [← hqi] at this ⊢
            exact HU.out cur k i this (by have := HO.out.1; have := Hm.out; omega)
          have g3 : (0 : Int) ≤ (k : Int) + 1 := by omega
          have g4 : (k : Int) + 1 < (n : Int) := by have := Hm.out; omega
          have g5 : IntKind.i64.wrap ((k : Int) + 1 - 1) = (k : Int) := IntWalk.i64_in _ (by omega) |>.trans (by omega)
          have g7 : ((k : Int) + 1).toNat = k + 1 := by omega
          have g8 : (k : Int) < (n : Int) := by omega
          have g9 : (x : Int) < (k : Int) + 1 := by omega
          have hqi2 := Lib.hid hqi
          clear hqi
          generalize nth cur (k + 1) = vy at *
          generalize nth cur k = vx at *
          go_wp2
          go_region
          all_goals
            go_wp2
            go_roundw
            case rel => exact ⟨k, i + 1, _, by have := hqi2.out; omega, by omega, by go_num, HT', (HN.out _ HO.out).keep (bl_drew _)⟩
            case measure => simp [intOf]
        · obtain rfl : x = q := by omega
          have hi : i = m - x := by omega
          have hqx : ¬ (x : Int) < (x : Int) := by omega
          go_wp2
          refine bodyPost_ret (results_none rfl _ _ _) rfl ?_
          exact ⟨rfl, cur, x, hx, hy, fun q => by have := H1.out q; rw [HP.out] at this; omega, fun q => (HP.out _).1 (H2.out q), by rw [← hi]; exact HT.out, HO.out⟩
end Go.Proofs.YtlhpiikpmmlpeaaDoor.od

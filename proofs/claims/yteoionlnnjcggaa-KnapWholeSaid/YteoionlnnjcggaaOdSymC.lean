/-
  slices.symMergeCmpFunc where both halves have more numbers than one.
-/
import Derived.Test.YteoionlnnjcggaaOdAll
namespace Go.Proofs.Yteoionlnnjcggaa.od
open Go.RowKit
set_option linter.unusedVariables false
structure Bnd (a m b mid s : Nat) : Prop where
  h1 : a ≤ s
  h2 : s ≤ m
  h3 : s ≤ mid
  h4 : m ≤ mid + m - s
  h5 : mid + m - s ≤ b
/-- what a merge leaves -/
def MrgP (K : Int → Int) (B g n cap : Nat) (l : List Int) (a b : Nat) (w0 : World) (e : Ending) (w' : World) : Prop := e = .returned (.tuple #[]) ∧ ∃ T, Sm T l a b ∧ Up K T a b ∧ Own B g n cap T w0 w'
set_option maxRecDepth 100000 in
set_option maxHeartbeats 8000000 in
theorem symC (c : Int → Int → Int) (hcb : ∀ x y, -1 ≤ c x y ∧ c x y ≤ 1) (K : Int → Int) (B g n cap : Nat) (hk : Cmpt c K n) (p1 p2 : Value) (w0 : World) (hc : Cmp26 c n p1 p2 B w0) (hn : n ≤ 1000) (hcap : n ≤ cap) (hcap2 : cap ≤ 9223372036854775807) (a m b : Nat) (hma : a + 1 < m) (hmb : m + 1 < b) (hbn : b ≤ n)
    (rec : ∀ (a' m' b' : Nat) (l' : List Int), b' - a' < b - a → a' < m' → m' < b' → b' ≤ n → Rng n l' → Up K l' a' m' → Up K l' m' b' → Lows l' a' m' b' → ∀ W, Own B g n cap l' w0 W →
      Calls Try.prog 66 #[.slice (some ⟨g, 0, none⟩) n cap, .int .i64 a', .int .i64 m', .int .i64 b', .func (.func 41) #[] #[p1, p2]] W (MrgP K B g n cap l' a' b' w0))
    (l : List Int) (hr : Rng n l) (h1 : Up K l a m) (h2 : Up K l m b) (hl : Lows l a m b) (w : World) (ho : Own B g n cap l w0 w) :
    Calls Try.prog 66 #[.slice (some ⟨g, 0, none⟩) n cap, .int .i64 a, .int .i64 m, .int .i64 b, .func (.func 41) #[] #[p1, p2]] w (MrgP K B g n cap l a b w0) := by
  have HC := Lib.hid hc
  have HO := Lib.hid ho
  have HR := Lib.hid hr
  have HB := Lib.hid hcb
  have hll := ho.1
  obtain ⟨mid, hmid⟩ : ∃ mid, mid = (a + b) / 2 := ⟨_, rfl⟩
  obtain ⟨lo, hlo⟩ : ∃ lo, lo = if mid < m then mid + m - b else a := ⟨_, rfl⟩
  obtain ⟨hi, hhi⟩ : ∃ hi, hi = if mid < m then mid else m := ⟨_, rfl⟩
  obtain ⟨P, hP⟩ : ∃ P : Nat → Prop, ∀ i, P i ↔ c (nth l (mid + m - 1 - i)) (nth l i) < 0 := ⟨_, fun _ => Iff.rfl⟩
  have HP := Lib.hid hP
  -- what the search's end tells
  have HE : Hid (∀ s, lo ≤ s → s ≤ hi → (lo < s → ¬ P (s - 1)) → (s < hi → P s) → ∀ T, RotM T l m (m - s) (mid + m - s - m) → Half K l T a s (m - s) (mid - s) b) :=
    fun s q1 q2 q3 q4 T hT => (both_half hk hr hbn (by omega) (by omega) hmid hlo hhi q1 q2 h1 h2 hl (fun q => by have := q3 q; rwa [hP] at this) (fun q => (hP s).1 (q4 q)) hT).2.2.2.2.2
  have HX : Hid (∀ s, lo ≤ s → s ≤ hi → Bnd a m b mid s) := fun s q1 q2 => by
    split at hlo <;> split at hhi <;> constructor <;> omega
  -- .. and what is left of the work then
  have HRot := Lib.hid (fun (s e : Nat) (q1 : s < m) (q2 : m < e) (q3 : e ≤ n) (W : World) (hO : Own B g n cap l w0 W) => rotate_any B g n cap l w0 s m e cap q1 q2 q3 hn hcap (.func (.func 41) #[] #[p1, p2]) W hO)
  have HL : Hid (∀ (s : Nat) (T : List Int), a ≤ s → s ≤ mid → Half K l T a s (m - s) (mid - s) b → a < s → s < mid → ∀ W, Own B g n cap T w0 W →
      Calls Try.prog 66 #[.slice (some ⟨g, 0, none⟩) n cap, .int .i64 a, .int .i64 s, .int .i64 mid, .func (.func 41) #[] #[p1, p2]] W (MrgP K B g n cap T a mid w0)) :=
    fun s T q1 q2 hh q3 q4 W hO => by
      have e : s + (mid - s) = mid := by omega
      exact rec a s mid T (by omega) q3 q4 (by omega) (hh.sm.rng hbn hr) hh.u1 (e ▸ hh.u2) (e ▸ hh.l1) W hO
  have HL0 : Hid (∀ (s : Nat) (T : List Int), a ≤ s → s ≤ mid → Half K l T a s (m - s) (mid - s) b → (a < s → mid ≤ s) → Up K T a mid) :=
    fun s T q1 q2 hh q3 => by
      have e : s + (mid - s) = mid := by omega
      rcases (show s = a ∨ s = mid by omega) with h | h
      · have := hh.u2; rw [e, h] at this; exact this
      · have := hh.u1; rw [h] at this; exact this
  have HM : Hid (∀ (s e : Nat) (T U : List Int), s + e = mid + m → a ≤ s → s ≤ m → s ≤ mid → e ≤ b → Half K l T a s (m - s) (mid - s) b → Sm U T a mid → mid < e → e < b → ∀ W, Own B g n cap U w0 W →
      Calls Try.prog 66 #[.slice (some ⟨g, 0, none⟩) n cap, .int .i64 mid, .int .i64 e, .int .i64 b, .func (.func 41) #[] #[p1, p2]] W (MrgP K B g n cap U mid b w0)) :=
    fun s e T U q0 q1 q2 q3 q4 hh hs q5 q6 W hO => by
      have e1 : s + (mid - s) = mid := by omega
      have e2 : s + (m - s) + (mid - s) = e := by omega
      have u3 := hh.u3; rw [e1, e2] at u3
      have u4 := hh.u4; rw [e2] at u4
      have l2 := hh.l2; rw [e1, e2] at l2
      have hx : ∀ x, mid ≤ x → nth U x = nth T x := fun x hx => hs.1 x (by omega)
      exact rec mid e b U (by omega) q5 q6 hbn ((hs.trans (Sm.refl _ _ _)).rng (by omega) (hh.sm.rng hbn hr)) (u3.congr fun x y1 y2 => hx x y1) (u4.congr fun x y1 y2 => hx x (by omega))
        (fun x y y1 y2 y3 y4 => by rw [hx x y1, hx y (by omega)]; exact l2 x y y1 y2 y3 y4) W hO
  have HM0 : Hid (∀ (s e : Nat) (T U : List Int), s + e = mid + m → a ≤ s → s ≤ m → s ≤ mid → e ≤ b → Half K l T a s (m - s) (mid - s) b → Sm U T a mid → (mid < e → b ≤ e) → Up K U mid b) :=
    fun s e T U q0 q1 q2 q3 q4 hh hs q5 => by
      have e1 : s + (mid - s) = mid := by omega
      have e2 : s + (m - s) + (mid - s) = e := by omega
      have u3 := hh.u3; rw [e1, e2] at u3
      have u4 := hh.u4; rw [e2] at u4
      have hx : ∀ x, mid ≤ x → nth U x = nth T x := fun x hx => hs.1 x (by omega)
      rcases (show e = mid ∨ e = b by omega) with h | h
      · rw [h] at u4; exact u4.congr fun x y1 y2 => hx x y1
      · rw [h] at u3; exact u3.congr fun x y1 y2 => hx x y1
  have HZ : Hid (∀ (s : Nat) (T U V : List Int), a ≤ s → s ≤ m → s ≤ mid → mid + m - s ≤ b → Half K l T a s (m - s) (mid - s) b → Sm U T a mid → Up K U a mid → Sm V U mid b → Up K V mid b → Sm V l a b ∧ Up K V a b) :=
    fun s T U V q1 q2 q3 q4 hh s1 u1 s2 u2 => by
      have e1 : s + (mid - s) = mid := by omega
      exact half_end hh q1 (by omega) (by rw [e1]; exact s1) (by rw [e1]; exact u1) (by rw [e1]; exact s2) (by rw [e1]; exact u2)
  have HS0 := Lib.hid (fun (i j : Nat) (h : i = 0 ∨ j = 0) => rot_start l m i j h)
  have g0 : ((m : Int) - (a : Int) == 1) = false := by simp; omega
  have g1 : ((b : Int) - (m : Int) == 1) = false := by simp; omega
  have v1 : IntKind.u64.wrap ((a : Int) + (b : Int)) = (a : Int) + (b : Int) := IntWalk.u64_in _ (by omega)
  have v2 : ((a : Int) + (b : Int)) / 2 = (mid : Int) := by omega
  have hd1 : a < mid := by omega
  have hd2 : mid < b := by omega
  have hd3 := Lib.hid (show 2 * mid ≤ a + b by omega)
  obtain ⟨p, hp⟩ : ∃ p, p = mid + m - 1 := ⟨_, rfl⟩
  have v4 : (mid : Int) + (m : Int) - 1 = (p : Int) := by omega
  have v6 : p ≤ 2000 := by omega
  have Hp := Lib.hid (show p + 1 = mid + m by omega)
  clear hp
  clear hc ho hr hcb hP h1 h2 hl hmid hk rec
  by_cases hmm : mid < m
  · have q1 : (mid : Int) < (m : Int) := by omega
    have elo : lo = mid + m - b := by rw [hlo, if_pos hmm]
    have ehi : hi = mid := by rw [hhi, if_pos hmm]
    have v3 : (mid : Int) + (m : Int) - (b : Int) = (lo : Int) := by omega
    have r1 : lo ≤ mid := by omega
    have r2 : ∀ i, i < hi → i < mid := fun i q => by omega
    have r3 : ∀ i, lo ≤ i → mid + m - 1 - i < n := fun i q => by omega
    have R2 := Lib.hid r2
    have R3 := Lib.hid r3
    rw [ehi] at HE HX
    have E1 := Lib.hid elo
    clear hlo hhi r2 r3 elo R2
    clear ehi hi
    have HHI := Lib.hid (show ∀ i, i < mid → i ≤ mid + m - 1 ∧ i < n from fun i q => by omega)
    go_enter Try.func66, Try.ntmps66
    go_wp2
    go_shifts
    go_wp2
    go_loopw [20, 21] (fun i j wr => ∃ (x y : Nat), lo ≤ x ∧ x ≤ y ∧ y ≤ mid ∧ i = .int .i64 x ∧ j = .int .i64 y ∧ Hid (lo < x → ¬ P (x - 1)) ∧ Hid (y < mid → P y) ∧ Hid (Own B g n cap l w0 wr)) (fun i j _ => (intOf j).toNat - (intOf i).toNat)
    case atStart => exact ⟨lo, mid, Nat.le_refl _, r1, Nat.le_refl _, rfl, rfl, fun h => by omega, fun h => by omega, HO⟩
    case round =>
      clear HO
      obtain ⟨x, y, hx, hxy, hy, rfl, rfl, H1, H2, HO⟩ := hrel
      by_cases hlt : x < y
      · obtain ⟨h, hh⟩ : ∃ h, h = (x + y) / 2 := ⟨_, rfl⟩
        have u1 : IntKind.u64.wrap ((x : Int) + (y : Int)) = (x : Int) + (y : Int) := IntWalk.u64_in _ (by omega)
        have u2 : ((x : Int) + (y : Int)) / 2 = (h : Int) := by omega
        have xh : x ≤ h := by omega
        have hy2 : h < y := by omega
        clear hh
        obtain ⟨t1, t2⟩ := HHI.out h (by omega)
        obtain ⟨k, hk⟩ : ∃ k, k = mid + m - 1 - h := ⟨_, rfl⟩
        have t3 : k < n := by rw [hk]; exact R3.out h (by omega)
        have u3 : (p : Int) - (h : Int) = (k : Int) := by have := Hp.out; omega
        have u4 : IntKind.i64.wrap ((p : Int) - (h : Int)) = (k : Int) := by rw [u3]; exact IntWalk.i64_in _ (by omega)
        have u5 : p - h = k := by omega
        have u6 : h ≤ p := by omega
        have u7 : (p : Int) < (n : Int) + (h : Int) := by omega
        have u8 : (p : Int) - (h : Int) < (n : Int) := by omega
        have HPk : Hid (P h ↔ c (nth l k) (nth l h) < 0) := by rw [hk]; exact HP.out h
        clear hk
        have e1 := HO.out.cell k (by omega)
        have e2 := HO.out.cell h (by omega)
        obtain ⟨x1, x2⟩ := HR.out h (by omega)
        obtain ⟨y1, y2⟩ := HR.out k (by omega)
        have HCm := Lib.hid (fun W (hb : Below B w0 W) => HC.out (nth l k) (nth l h) W y1 y2 x1 x2 hb)
        have hcb := HB.out (nth l k) (nth l h)
        have HOc := Lib.hid (fun (W : World) (q : Own B g n cap l w0 W) => And.intro (q.cell k (by omega)) (q.cell h (by omega)))
        have k1 : (k : Int) < (n : Int) := by omega
        have k2 : (h : Int) < (n : Int) := by omega
        by_cases hc : c (nth l k) (nth l h) < 0
        · have H2' : Hid (h < mid → P h) := fun _ => HPk.out.2 hc
          generalize hcx : c (nth l k) (nth l h) = cv at *
          clear hcx
          generalize nth l h = vx at *
          generalize nth l k = vy at *
          go_wp2
          go_shifts
          go_wp2
          go_region_held3 (fun w' => w'.cell? ⟨g, k, none⟩ = some (.int .i64 vy) ∧ w'.cell? ⟨g, h, none⟩ = some (.int .i64 vx)) (first | exact ⟨e1, e2⟩ | exact ⟨f1, f2⟩)
            (first
              | (go_at_call 41; refine (HCm.out _ (HO.out.keep (bl_drew _)).2.2.2).mono ?_; rintro e w2 ⟨rfl, hb2⟩; have HO2 := Lib.hid (HO.out.keep (bl_undr hb2)); obtain ⟨f1, f2⟩ := HOc.out _ HO2.out; clear hb2))
          clear e1 e2
          go_wp2
          go_roundw
          case rel => exact ⟨x, h, by omega, by omega, by omega, rfl, rfl, H1, H2', HO2⟩
          case measure => simp [intOf]; omega
        · have H1' : Hid (lo < h + 1 → ¬ P (h + 1 - 1)) := fun _ q => hc (HPk.out.1 q)
          generalize hcx : c (nth l k) (nth l h) = cv at *
          clear hcx
          generalize nth l h = vx at *
          generalize nth l k = vy at *
          go_wp2
          go_shifts
          go_wp2
          go_region_held3 (fun w' => w'.cell? ⟨g, k, none⟩ = some (.int .i64 vy) ∧ w'.cell? ⟨g, h, none⟩ = some (.int .i64 vx)) (first | exact ⟨e1, e2⟩ | exact ⟨f1, f2⟩)
            (first
              | (go_at_call 41; refine (HCm.out _ (HO.out.keep (bl_drew _)).2.2.2).mono ?_; rintro e w2 ⟨rfl, hb2⟩; have HO2 := Lib.hid (HO.out.keep (bl_undr hb2)); obtain ⟨f1, f2⟩ := HOc.out _ HO2.out; clear hb2))
          clear e1 e2
          go_wp2
          go_roundw
          case rel => exact ⟨h + 1, y, by omega, by omega, hy, by go_num, rfl, H1', H2, HO2⟩
          case measure => simp [intOf]; omega
          all_goals (exfalso; rename_i hh; simp at hh; omega)
      · obtain rfl : x = y := by omega
        obtain ⟨s, hs⟩ : ∃ s, s = x := ⟨_, rfl⟩
        obtain ⟨e, he⟩ : ∃ e, e = mid + m - s := ⟨_, rfl⟩
        obtain ⟨f1, f2, f3, f4, f5⟩ := HX.out x hx hy
        rw [← hs] at f1 f2 f3 f4 f5
        rw [← he] at f4 f5
        have hse := Lib.hid (show s + e = mid + m by omega)
        have HF : Hid (∀ T, RotM T l m (m - s) (e - m) → Half K l T a s (m - s) (mid - s) b) := by rw [he, hs]; exact HE.out x hx hy H1.out H2.out
        have v5 : (mid : Int) + (m : Int) - (s : Int) = (e : Int) := by omega
        have b1 : e ≤ b := by omega
        have b2 : e ≤ n := by omega
        have b3 : s ≤ m := by omega
        have b4 : s ≤ mid := by omega
        rw [← hs] at *
        clear hs he HE H1 H2 HX
        by_cases c1 : s < m ∧ m < e
        · obtain ⟨c1a, c1b⟩ := c1
          have k1a : (s : Int) < (m : Int) := by omega
          have k1b : (m : Int) < (e : Int) := by omega
          have HQ1 := Lib.hid (HRot.out s e c1a c1b (by omega) _ HO.out)
          go_wp2_with fail
          refine HQ1.out.mono ?_; rintro er w3 ⟨rfl, T, hs3, ho3⟩
          have hh := HF.out T hs3
          have HH := Lib.hid hh
          have HO3 := Lib.hid ho3
          clear hs3 ho3 hh HQ1 HO
          by_cases c2 : a < s ∧ s < mid
          · obtain ⟨c2a, c2b⟩ := c2
            have k2a : (a : Int) < (s : Int) := by omega
            have k2b : (s : Int) < (mid : Int) := by omega
            have HQ2 := Lib.hid (HL.out s T f1 f3 HH.out c2a c2b _ HO3.out)
            go_wp2_with fail
            refine HQ2.out.mono ?_; rintro er w4 ⟨rfl, U, hs4, hu4, ho4⟩
            have HU := Lib.hid hs4
            have HUu := Lib.hid hu4
            have HO4 := Lib.hid ho4
            clear hs4 hu4 ho4 HQ2
            by_cases c3 : mid < e ∧ e < b
            · obtain ⟨c3a, c3b⟩ := c3
              have k3a : (mid : Int) < (e : Int) := by omega
              have k3b : (e : Int) < (b : Int) := by omega
              have HQ := Lib.hid (HM.out s e T U hse.out f1 f2 f3 f5 HH.out HU.out c3a c3b _ HO4.out)
              go_wp2_with fail
              all_goals
                refine HQ.out.mono ?_; rintro er w5 ⟨rfl, V, hs5, hu5, ho5⟩
                have HV := Lib.hid hs5
                have HVu := Lib.hid hu5
                have HO5 := Lib.hid ho5
                clear hs5 hu5 ho5 HQ
                go_wp2
                go_end0
                exact ⟨rfl, V, (HZ.out s T U V f1 f2 f3 (by have := hse.out; omega) HH.out HU.out HUu.out HV.out HVu.out).1, (HZ.out s T U V f1 f2 f3 (by have := hse.out; omega) HH.out HU.out HUu.out HV.out HVu.out).2, HO5.out⟩
            · have HVu := Lib.hid (HM0.out s e T U hse.out f1 f2 f3 f5 HH.out HU.out (fun q => by omega))
              rcases (show ¬ (mid : Int) < (e : Int) ∨ ((mid : Int) < (e : Int) ∧ ¬ (e : Int) < (b : Int)) by omega) with k3 | ⟨k3a, k3b⟩
              all_goals
                clear c3
                go_wp2
                all_goals go_end0
                all_goals exact ⟨rfl, U, (HZ.out s T U U f1 f2 f3 (by have := hse.out; omega) HH.out HU.out HUu.out (Sm.refl _ _ _) HVu.out).1, (HZ.out s T U U f1 f2 f3 (by have := hse.out; omega) HH.out HU.out HUu.out (Sm.refl _ _ _) HVu.out).2, HO4.out⟩
          · have HUu := Lib.hid (HL0.out s T f1 f3 HH.out (fun q => by omega))
            have HU := Lib.hid (Sm.refl T a mid)
            rcases (show ¬ (a : Int) < (s : Int) ∨ ((a : Int) < (s : Int) ∧ ¬ (s : Int) < (mid : Int)) by omega) with k2 | ⟨k2a, k2b⟩
            all_goals
              clear c2
              by_cases c3 : mid < e ∧ e < b
              · obtain ⟨c3a, c3b⟩ := c3
                have k3a : (mid : Int) < (e : Int) := by omega
                have k3b : (e : Int) < (b : Int) := by omega
                have HQ := Lib.hid (HM.out s e T T hse.out f1 f2 f3 f5 HH.out HU.out c3a c3b _ HO3.out)
                go_wp2_with fail
                all_goals
                  refine HQ.out.mono ?_; rintro er w5 ⟨rfl, V, hs5, hu5, ho5⟩
                  have HV := Lib.hid hs5
                  have HVu := Lib.hid hu5
                  have HO5 := Lib.hid ho5
                  clear hs5 hu5 ho5 HQ
                  go_wp2
                  go_end0
                  exact ⟨rfl, V, (HZ.out s T T V f1 f2 f3 (by have := hse.out; omega) HH.out HU.out HUu.out HV.out HVu.out).1, (HZ.out s T T V f1 f2 f3 (by have := hse.out; omega) HH.out HU.out HUu.out HV.out HVu.out).2, HO5.out⟩
              · have HVu := Lib.hid (HM0.out s e T T hse.out f1 f2 f3 f5 HH.out HU.out (fun q => by omega))
                rcases (show ¬ (mid : Int) < (e : Int) ∨ ((mid : Int) < (e : Int) ∧ ¬ (e : Int) < (b : Int)) by omega) with k3 | ⟨k3a, k3b⟩
                all_goals
                  clear c3
                  go_wp2
                  all_goals go_end0
                  all_goals exact ⟨rfl, T, (HZ.out s T T T f1 f2 f3 (by have := hse.out; omega) HH.out HU.out HUu.out (Sm.refl _ _ _) HVu.out).1, (HZ.out s T T T f1 f2 f3 (by have := hse.out; omega) HH.out HU.out HUu.out (Sm.refl _ _ _) HVu.out).2, HO3.out⟩
        · have hh := HF.out l (HS0.out (m - s) (e - m) (by have := hse.out; omega))
          have HH := Lib.hid hh
          clear hh
          rcases (show ¬ (s : Int) < (m : Int) ∨ ((s : Int) < (m : Int) ∧ ¬ (m : Int) < (e : Int)) by omega) with k1 | ⟨k1a, k1b⟩
          all_goals
            clear c1
            by_cases c2 : a < s ∧ s < mid
            · obtain ⟨c2a, c2b⟩ := c2
              have k2a : (a : Int) < (s : Int) := by omega
              have k2b : (s : Int) < (mid : Int) := by omega
              have HQ2 := Lib.hid (HL.out s l f1 f3 HH.out c2a c2b _ HO.out)
              go_wp2_with fail
              refine HQ2.out.mono ?_; rintro er w4 ⟨rfl, U, hs4, hu4, ho4⟩
              have HU := Lib.hid hs4
              have HUu := Lib.hid hu4
              have HO4 := Lib.hid ho4
              clear hs4 hu4 ho4 HQ2
              by_cases c3 : mid < e ∧ e < b
              · obtain ⟨c3a, c3b⟩ := c3
                have k3a : (mid : Int) < (e : Int) := by omega
                have k3b : (e : Int) < (b : Int) := by omega
                have HQ := Lib.hid (HM.out s e l U hse.out f1 f2 f3 f5 HH.out HU.out c3a c3b _ HO4.out)
                go_wp2_with fail
                all_goals
                  refine HQ.out.mono ?_; rintro er w5 ⟨rfl, V, hs5, hu5, ho5⟩
                  have HV := Lib.hid hs5
                  have HVu := Lib.hid hu5
                  have HO5 := Lib.hid ho5
                  clear hs5 hu5 ho5 HQ
                  go_wp2
                  go_end0
                  exact ⟨rfl, V, (HZ.out s l U V f1 f2 f3 (by have := hse.out; omega) HH.out HU.out HUu.out HV.out HVu.out).1, (HZ.out s l U V f1 f2 f3 (by have := hse.out; omega) HH.out HU.out HUu.out HV.out HVu.out).2, HO5.out⟩
              · have HVu := Lib.hid (HM0.out s e l U hse.out f1 f2 f3 f5 HH.out HU.out (fun q => by omega))
                rcases (show ¬ (mid : Int) < (e : Int) ∨ ((mid : Int) < (e : Int) ∧ ¬ (e : Int) < (b : Int)) by omega) with k3 | ⟨k3a, k3b⟩
                all_goals
                  clear c3
                  go_wp2
                  all_goals go_end0
                  all_goals exact ⟨rfl, U, (HZ.out s l U U f1 f2 f3 (by have := hse.out; omega) HH.out HU.out HUu.out (Sm.refl _ _ _) HVu.out).1, (HZ.out s l U U f1 f2 f3 (by have := hse.out; omega) HH.out HU.out HUu.out (Sm.refl _ _ _) HVu.out).2, HO4.out⟩
            · have HUu := Lib.hid (HL0.out s l f1 f3 HH.out (fun q => by omega))
              have HU := Lib.hid (Sm.refl l a mid)
              rcases (show ¬ (a : Int) < (s : Int) ∨ ((a : Int) < (s : Int) ∧ ¬ (s : Int) < (mid : Int)) by omega) with k2 | ⟨k2a, k2b⟩
              all_goals
                clear c2
                by_cases c3 : mid < e ∧ e < b
                · obtain ⟨c3a, c3b⟩ := c3
                  have k3a : (mid : Int) < (e : Int) := by omega
                  have k3b : (e : Int) < (b : Int) := by omega
                  have HQ := Lib.hid (HM.out s e l l hse.out f1 f2 f3 f5 HH.out HU.out c3a c3b _ HO.out)
                  go_wp2_with fail
                  all_goals
                    refine HQ.out.mono ?_; rintro er w5 ⟨rfl, V, hs5, hu5, ho5⟩
                    have HV := Lib.hid hs5
                    have HVu := Lib.hid hu5
                    have HO5 := Lib.hid ho5
                    clear hs5 hu5 ho5 HQ
                    go_wp2
                    go_end0
                    exact ⟨rfl, V, (HZ.out s l l V f1 f2 f3 (by have := hse.out; omega) HH.out HU.out HUu.out HV.out HVu.out).1, (HZ.out s l l V f1 f2 f3 (by have := hse.out; omega) HH.out HU.out HUu.out HV.out HVu.out).2, HO5.out⟩
                · have HVu := Lib.hid (HM0.out s e l l hse.out f1 f2 f3 f5 HH.out HU.out (fun q => by omega))
                  rcases (show ¬ (mid : Int) < (e : Int) ∨ ((mid : Int) < (e : Int) ∧ ¬ (e : Int) < (b : Int)) by omega) with k3 | ⟨k3a, k3b⟩
                  all_goals
                    clear c3
                    go_wp2
                    all_goals go_end0
                    all_goals exact ⟨rfl, l, (HZ.out s l l l f1 f2 f3 (by have := hse.out; omega) HH.out HU.out HUu.out (Sm.refl _ _ _) HVu.out).1, (HZ.out s l l l f1 f2 f3 (by have := hse.out; omega) HH.out HU.out HUu.out (Sm.refl _ _ _) HVu.out).2, HO.out⟩
  · have q1 : ¬ (mid : Int) < (m : Int) := by omega
    have elo : lo = a := by rw [hlo, if_neg hmm]
    have ehi : hi = m := by rw [hhi, if_neg hmm]
    have r3 : ∀ i, lo ≤ i → mid + m - 1 - i < n := fun i q => by have := hd3.out; omega
    have R3 := Lib.hid r3
    rw [ehi, elo] at HE HX
    rw [elo] at R3
    have r1 : a ≤ m := by omega
    clear elo
    clear hlo hhi r3
    clear ehi hi
    have HHI := Lib.hid (show ∀ i, i < m → i ≤ mid + m - 1 ∧ i < n from fun i q => by omega)
    go_enter Try.func66, Try.ntmps66
    go_wp2
    go_shifts
    go_wp2
    go_loopw [20, 21] (fun i j wr => ∃ (x y : Nat), a ≤ x ∧ x ≤ y ∧ y ≤ m ∧ i = .int .i64 x ∧ j = .int .i64 y ∧ Hid (a < x → ¬ P (x - 1)) ∧ Hid (y < m → P y) ∧ Hid (Own B g n cap l w0 wr)) (fun i j _ => (intOf j).toNat - (intOf i).toNat)
    case atStart => exact ⟨a, m, Nat.le_refl _, r1, Nat.le_refl _, rfl, rfl, fun h => by omega, fun h => by omega, HO⟩
    case round =>
      clear HO
      obtain ⟨x, y, hx, hxy, hy, rfl, rfl, H1, H2, HO⟩ := hrel
      by_cases hlt : x < y
      · obtain ⟨h, hh⟩ : ∃ h, h = (x + y) / 2 := ⟨_, rfl⟩
        have u1 : IntKind.u64.wrap ((x : Int) + (y : Int)) = (x : Int) + (y : Int) := IntWalk.u64_in _ (by omega)
        have u2 : ((x : Int) + (y : Int)) / 2 = (h : Int) := by omega
        have xh : x ≤ h := by omega
        have hy2 : h < y := by omega
        clear hh
        obtain ⟨t1, t2⟩ := HHI.out h (by omega)
        obtain ⟨k, hk⟩ : ∃ k, k = mid + m - 1 - h := ⟨_, rfl⟩
        have t3 : k < n := by rw [hk]; exact R3.out h (by omega)
        have u3 : (p : Int) - (h : Int) = (k : Int) := by have := Hp.out; omega
        have u4 : IntKind.i64.wrap ((p : Int) - (h : Int)) = (k : Int) := by rw [u3]; exact IntWalk.i64_in _ (by omega)
        have u5 : p - h = k := by omega
        have u6 : h ≤ p := by omega
        have u7 : (p : Int) < (n : Int) + (h : Int) := by omega
        have u8 : (p : Int) - (h : Int) < (n : Int) := by omega
        have HPk : Hid (P h ↔ c (nth l k) (nth l h) < 0) := by rw [hk]; exact HP.out h
        clear hk
        have e1 := HO.out.cell k (by omega)
        have e2 := HO.out.cell h (by omega)
        obtain ⟨x1, x2⟩ := HR.out h (by omega)
        obtain ⟨y1, y2⟩ := HR.out k (by omega)
        have HCm := Lib.hid (fun W (hb : Below B w0 W) => HC.out (nth l k) (nth l h) W y1 y2 x1 x2 hb)
        have hcb := HB.out (nth l k) (nth l h)
        have HOc := Lib.hid (fun (W : World) (q : Own B g n cap l w0 W) => And.intro (q.cell k (by omega)) (q.cell h (by omega)))
        have k1 : (k : Int) < (n : Int) := by omega
        have k2 : (h : Int) < (n : Int) := by omega
        by_cases hc : c (nth l k) (nth l h) < 0
        · have H2' : Hid (h < m → P h) := fun _ => HPk.out.2 hc
          generalize hcx : c (nth l k) (nth l h) = cv at *
          clear hcx
          generalize nth l h = vx at *
          generalize nth l k = vy at *
          go_wp2
          go_shifts
          go_wp2
          go_region_held3 (fun w' => w'.cell? ⟨g, k, none⟩ = some (.int .i64 vy) ∧ w'.cell? ⟨g, h, none⟩ = some (.int .i64 vx)) (first | exact ⟨e1, e2⟩ | exact ⟨f1, f2⟩)
            (first
              | (go_at_call 41; refine (HCm.out _ (HO.out.keep (bl_drew _)).2.2.2).mono ?_; rintro e w2 ⟨rfl, hb2⟩; have HO2 := Lib.hid (HO.out.keep (bl_undr hb2)); obtain ⟨f1, f2⟩ := HOc.out _ HO2.out; clear hb2))
          clear e1 e2
          go_wp2
          go_roundw
          case rel => exact ⟨x, h, by omega, by omega, by omega, rfl, rfl, H1, H2', HO2⟩
          case measure => simp [intOf]; omega
        · have H1' : Hid (a < h + 1 → ¬ P (h + 1 - 1)) := fun _ q => hc (HPk.out.1 q)
          generalize hcx : c (nth l k) (nth l h) = cv at *
          clear hcx
          generalize nth l h = vx at *
          generalize nth l k = vy at *
          go_wp2
          go_shifts
          go_wp2
          go_region_held3 (fun w' => w'.cell? ⟨g, k, none⟩ = some (.int .i64 vy) ∧ w'.cell? ⟨g, h, none⟩ = some (.int .i64 vx)) (first | exact ⟨e1, e2⟩ | exact ⟨f1, f2⟩)
            (first
              | (go_at_call 41; refine (HCm.out _ (HO.out.keep (bl_drew _)).2.2.2).mono ?_; rintro e w2 ⟨rfl, hb2⟩; have HO2 := Lib.hid (HO.out.keep (bl_undr hb2)); obtain ⟨f1, f2⟩ := HOc.out _ HO2.out; clear hb2))
          clear e1 e2
          go_wp2
          go_roundw
          case rel => exact ⟨h + 1, y, by omega, by omega, hy, by go_num, rfl, H1', H2, HO2⟩
          case measure => simp [intOf]; omega
          all_goals (exfalso; rename_i hh; simp at hh; omega)
      · obtain rfl : x = y := by omega
        obtain ⟨s, hs⟩ : ∃ s, s = x := ⟨_, rfl⟩
        obtain ⟨e, he⟩ : ∃ e, e = mid + m - s := ⟨_, rfl⟩
        obtain ⟨f1, f2, f3, f4, f5⟩ := HX.out x hx hy
        rw [← hs] at f1 f2 f3 f4 f5
        rw [← he] at f4 f5
        have hse := Lib.hid (show s + e = mid + m by omega)
        have HF : Hid (∀ T, RotM T l m (m - s) (e - m) → Half K l T a s (m - s) (mid - s) b) := by rw [he, hs]; exact HE.out x hx hy H1.out H2.out
        have v5 : (mid : Int) + (m : Int) - (s : Int) = (e : Int) := by omega
        have b1 : e ≤ b := by omega
        have b2 : e ≤ n := by omega
        have b3 : s ≤ m := by omega
        have b4 : s ≤ mid := by omega
        rw [← hs] at *
        clear hs he HE H1 H2 HX
        by_cases c1 : s < m ∧ m < e
        · obtain ⟨c1a, c1b⟩ := c1
          have k1a : (s : Int) < (m : Int) := by omega
          have k1b : (m : Int) < (e : Int) := by omega
          have HQ1 := Lib.hid (HRot.out s e c1a c1b (by omega) _ HO.out)
          go_wp2_with fail
          refine HQ1.out.mono ?_; rintro er w3 ⟨rfl, T, hs3, ho3⟩
          have hh := HF.out T hs3
          have HH := Lib.hid hh
          have HO3 := Lib.hid ho3
          clear hs3 ho3 hh HQ1 HO
          by_cases c2 : a < s ∧ s < mid
          · obtain ⟨c2a, c2b⟩ := c2
            have k2a : (a : Int) < (s : Int) := by omega
            have k2b : (s : Int) < (mid : Int) := by omega
            have HQ2 := Lib.hid (HL.out s T f1 f3 HH.out c2a c2b _ HO3.out)
            go_wp2_with fail
            refine HQ2.out.mono ?_; rintro er w4 ⟨rfl, U, hs4, hu4, ho4⟩
            have HU := Lib.hid hs4
            have HUu := Lib.hid hu4
            have HO4 := Lib.hid ho4
            clear hs4 hu4 ho4 HQ2
            by_cases c3 : mid < e ∧ e < b
            · obtain ⟨c3a, c3b⟩ := c3
              have k3a : (mid : Int) < (e : Int) := by omega
              have k3b : (e : Int) < (b : Int) := by omega
              have HQ := Lib.hid (HM.out s e T U hse.out f1 f2 f3 f5 HH.out HU.out c3a c3b _ HO4.out)
              go_wp2_with fail
              all_goals
                refine HQ.out.mono ?_; rintro er w5 ⟨rfl, V, hs5, hu5, ho5⟩
                have HV := Lib.hid hs5
                have HVu := Lib.hid hu5
                have HO5 := Lib.hid ho5
                clear hs5 hu5 ho5 HQ
                go_wp2
                go_end0
                exact ⟨rfl, V, (HZ.out s T U V f1 f2 f3 (by have := hse.out; omega) HH.out HU.out HUu.out HV.out HVu.out).1, (HZ.out s T U V f1 f2 f3 (by have := hse.out; omega) HH.out HU.out HUu.out HV.out HVu.out).2, HO5.out⟩
            · have HVu := Lib.hid (HM0.out s e T U hse.out f1 f2 f3 f5 HH.out HU.out (fun q => by omega))
              rcases (show ¬ (mid : Int) < (e : Int) ∨ ((mid : Int) < (e : Int) ∧ ¬ (e : Int) < (b : Int)) by omega) with k3 | ⟨k3a, k3b⟩
              all_goals
                clear c3
                go_wp2
                all_goals go_end0
                all_goals exact ⟨rfl, U, (HZ.out s T U U f1 f2 f3 (by have := hse.out; omega) HH.out HU.out HUu.out (Sm.refl _ _ _) HVu.out).1, (HZ.out s T U U f1 f2 f3 (by have := hse.out; omega) HH.out HU.out HUu.out (Sm.refl _ _ _) HVu.out).2, HO4.out⟩
          · have HUu := Lib.hid (HL0.out s T f1 f3 HH.out (fun q => by omega))
            have HU := Lib.hid (Sm.refl T a mid)
            rcases (show ¬ (a : Int) < (s : Int) ∨ ((a : Int) < (s : Int) ∧ ¬ (s : Int) < (mid : Int)) by omega) with k2 | ⟨k2a, k2b⟩
            all_goals
              clear c2
              by_cases c3 : mid < e ∧ e < b
              · obtain ⟨c3a, c3b⟩ := c3
                have k3a : (mid : Int) < (e : Int) := by omega
                have k3b : (e : Int) < (b : Int) := by omega
                have HQ := Lib.hid (HM.out s e T T hse.out f1 f2 f3 f5 HH.out HU.out c3a c3b _ HO3.out)
                go_wp2_with fail
                all_goals
                  refine HQ.out.mono ?_; rintro er w5 ⟨rfl, V, hs5, hu5, ho5⟩
                  have HV := Lib.hid hs5
                  have HVu := Lib.hid hu5
                  have HO5 := Lib.hid ho5
                  clear hs5 hu5 ho5 HQ
                  go_wp2
                  go_end0
                  exact ⟨rfl, V, (HZ.out s T T V f1 f2 f3 (by have := hse.out; omega) HH.out HU.out HUu.out HV.out HVu.out).1, (HZ.out s T T V f1 f2 f3 (by have := hse.out; omega) HH.out HU.out HUu.out HV.out HVu.out).2, HO5.out⟩
              · have HVu := Lib.hid (HM0.out s e T T hse.out f1 f2 f3 f5 HH.out HU.out (fun q => by omega))
                rcases (show ¬ (mid : Int) < (e : Int) ∨ ((mid : Int) < (e : Int) ∧ ¬ (e : Int) < (b : Int)) by omega) with k3 | ⟨k3a, k3b⟩
                all_goals
                  clear c3
                  go_wp2
                  all_goals go_end0
                  all_goals exact ⟨rfl, T, (HZ.out s T T T f1 f2 f3 (by have := hse.out; omega) HH.out HU.out HUu.out (Sm.refl _ _ _) HVu.out).1, (HZ.out s T T T f1 f2 f3 (by have := hse.out; omega) HH.out HU.out HUu.out (Sm.refl _ _ _) HVu.out).2, HO3.out⟩
        · have hh := HF.out l (HS0.out (m - s) (e - m) (by have := hse.out; omega))
          have HH := Lib.hid hh
          clear hh
          rcases (show ¬ (s : Int) < (m : Int) ∨ ((s : Int) < (m : Int) ∧ ¬ (m : Int) < (e : Int)) by omega) with k1 | ⟨k1a, k1b⟩
          all_goals
            clear c1
            by_cases c2 : a < s ∧ s < mid
            · obtain ⟨c2a, c2b⟩ := c2
              have k2a : (a : Int) < (s : Int) := by omega
              have k2b : (s : Int) < (mid : Int) := by omega
              have HQ2 := Lib.hid (HL.out s l f1 f3 HH.out c2a c2b _ HO.out)
              go_wp2_with fail
              refine HQ2.out.mono ?_; rintro er w4 ⟨rfl, U, hs4, hu4, ho4⟩
              have HU := Lib.hid hs4
              have HUu := Lib.hid hu4
              have HO4 := Lib.hid ho4
              clear hs4 hu4 ho4 HQ2
              by_cases c3 : mid < e ∧ e < b
              · obtain ⟨c3a, c3b⟩ := c3
                have k3a : (mid : Int) < (e : Int) := by omega
                have k3b : (e : Int) < (b : Int) := by omega
                have HQ := Lib.hid (HM.out s e l U hse.out f1 f2 f3 f5 HH.out HU.out c3a c3b _ HO4.out)
                go_wp2_with fail
                all_goals
                  refine HQ.out.mono ?_; rintro er w5 ⟨rfl, V, hs5, hu5, ho5⟩
                  have HV := Lib.hid hs5
                  have HVu := Lib.hid hu5
                  have HO5 := Lib.hid ho5
                  clear hs5 hu5 ho5 HQ
                  go_wp2
                  go_end0
                  exact ⟨rfl, V, (HZ.out s l U V f1 f2 f3 (by have := hse.out; omega) HH.out HU.out HUu.out HV.out HVu.out).1, (HZ.out s l U V f1 f2 f3 (by have := hse.out; omega) HH.out HU.out HUu.out HV.out HVu.out).2, HO5.out⟩
              · have HVu := Lib.hid (HM0.out s e l U hse.out f1 f2 f3 f5 HH.out HU.out (fun q => by omega))
                rcases (show ¬ (mid : Int) < (e : Int) ∨ ((mid : Int) < (e : Int) ∧ ¬ (e : Int) < (b : Int)) by omega) with k3 | ⟨k3a, k3b⟩
                all_goals
                  clear c3
                  go_wp2
                  all_goals go_end0
                  all_goals exact ⟨rfl, U, (HZ.out s l U U f1 f2 f3 (by have := hse.out; omega) HH.out HU.out HUu.out (Sm.refl _ _ _) HVu.out).1, (HZ.out s l U U f1 f2 f3 (by have := hse.out; omega) HH.out HU.out HUu.out (Sm.refl _ _ _) HVu.out).2, HO4.out⟩
            · have HUu := Lib.hid (HL0.out s l f1 f3 HH.out (fun q => by omega))
              have HU := Lib.hid (Sm.refl l a mid)
              rcases (show ¬ (a : Int) < (s : Int) ∨ ((a : Int) < (s : Int) ∧ ¬ (s : Int) < (mid : Int)) by omega) with k2 | ⟨k2a, k2b⟩
              all_goals
                clear c2
                by_cases c3 : mid < e ∧ e < b
                · obtain ⟨c3a, c3b⟩ := c3
                  have k3a : (mid : Int) < (e : Int) := by omega
                  have k3b : (e : Int) < (b : Int) := by omega
                  have HQ := Lib.hid (HM.out s e l l hse.out f1 f2 f3 f5 HH.out HU.out c3a c3b _ HO.out)
                  go_wp2_with fail
                  all_goals
                    refine HQ.out.mono ?_; rintro er w5 ⟨rfl, V, hs5, hu5, ho5⟩
                    have HV := Lib.hid hs5
                    have HVu := Lib.hid hu5
                    have HO5 := Lib.hid ho5
                    clear hs5 hu5 ho5 HQ
                    go_wp2
                    go_end0
                    exact ⟨rfl, V, (HZ.out s l l V f1 f2 f3 (by have := hse.out; omega) HH.out HU.out HUu.out HV.out HVu.out).1, (HZ.out s l l V f1 f2 f3 (by have := hse.out; omega) HH.out HU.out HUu.out HV.out HVu.out).2, HO5.out⟩
                · have HVu := Lib.hid (HM0.out s e l l hse.out f1 f2 f3 f5 HH.out HU.out (fun q => by omega))
                  rcases (show ¬ (mid : Int) < (e : Int) ∨ ((mid : Int) < (e : Int) ∧ ¬ (e : Int) < (b : Int)) by omega) with k3 | ⟨k3a, k3b⟩
                  all_goals
                    clear c3
                    go_wp2
                    all_goals go_end0
                    all_goals exact ⟨rfl, l, (HZ.out s l l l f1 f2 f3 (by have := hse.out; omega) HH.out HU.out HUu.out (Sm.refl _ _ _) HVu.out).1, (HZ.out s l l l f1 f2 f3 (by have := hse.out; omega) HH.out HU.out HUu.out (Sm.refl _ _ _) HVu.out).2, HO.out⟩
end Go.Proofs.Yteoionlnnjcggaa.od

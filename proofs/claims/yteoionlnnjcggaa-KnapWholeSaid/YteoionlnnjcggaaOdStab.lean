/-
  slices.SortStableFunc of a list of rising numbers: what it leaves.
-/
import Derived.Test.YteoionlnnjcggaaOdSymC
namespace Go.Proofs.Yteoionlnnjcggaa.od
open Go.RowKit
set_option linter.unusedVariables false
theorem sym_any (c : Int → Int → Int) (hcb : ∀ x y, -1 ≤ c x y ∧ c x y ≤ 1) (K : Int → Int) (B g n cap : Nat) (hk : Cmpt c K n) (p1 p2 : Value) (w0 : World) (hc : Cmp26 c n p1 p2 B w0) (hn : n ≤ 1000) (hcap : n ≤ cap) (hcap2 : cap ≤ 9223372036854775807) : ∀ (d a m b : Nat) (l : List Int), b - a ≤ d → a < m → m < b → b ≤ n → Rng n l → Up K l a m → Up K l m b → Lows l a m b → ∀ w, Own B g n cap l w0 w →
    Calls Try.prog 66 #[.slice (some ⟨g, 0, none⟩) n cap, .int .i64 a, .int .i64 m, .int .i64 b, .func (.func 41) #[] #[p1, p2]] w (MrgP K B g n cap l a b w0)
  | 0, a, m, b, l, hd, ha, hb, hbn, hr, h1, h2, hl, w, ho => by omega
  | d + 1, a, m, b, l, hd, ha, hb, hbn, hr, h1, h2, hl, w, ho => by
    by_cases e1 : m = a + 1
    · refine (symA c hcb B g n cap p1 p2 w0 hc hn hcap hcap2 a m b e1 hb hbn l hr w ho).mono ?_
      rintro e w' ⟨he, T, i, i1, i2, i3, i4, hT, hO⟩
      subst e1
      obtain ⟨q1, q2⟩ := one_left hk hr hbn i1 i2 h2 hl i3 i4 hT
      exact ⟨he, T, q1, q2, hO⟩
    · by_cases e2 : b = m + 1
      · refine (symB c hcb B g n cap p1 p2 w0 hc hn hcap hcap2 a m b e2 (by omega) hbn l hr w ho).mono ?_
        rintro e w' ⟨he, T, i, i1, i2, i3, i4, hT, hO⟩
        subst e2
        obtain ⟨q1, q2⟩ := one_right hk hr hbn i1 i2 h1 hl i3 i4 hT
        exact ⟨he, T, q1, q2, hO⟩
      · exact symC c hcb K B g n cap hk p1 p2 w0 hc hn hcap hcap2 a m b (by omega) (by omega) hbn
          (fun a' m' b' l' q1 q2 q3 q4 q5 q6 q7 q8 W hO => sym_any c hcb K B g n cap hk p1 p2 w0 hc hn hcap hcap2 d a' m' b' l' (by omega) q2 q3 q4 q5 q6 q7 q8 W hO) l hr h1 h2 hl w ho
/-- a multiple of the block's size -/
def Bs (s x : Nat) : Prop := ∃ k, x = k * s
theorem Bs.zero (s : Nat) : Bs s 0 := ⟨0, by simp⟩
theorem Bs.add {s x : Nat} (h : Bs s x) : Bs s (x + s) := by
  obtain ⟨k, rfl⟩ := h
  exact ⟨k + 1, by rw [Nat.succ_mul]⟩
theorem Bs.dbl {s x : Nat} (h : Bs (2 * s) x) : Bs s x := by
  obtain ⟨k, rfl⟩ := h
  exact ⟨k * 2, by rw [Nat.mul_assoc]⟩
theorem Bs.gap {s x y : Nat} (h : Bs s x) (k : Bs s y) (hlt : x < y) : x + s ≤ y := by
  obtain ⟨i, rfl⟩ := h
  obtain ⟨j, rfl⟩ := k
  have : i < j := by
    rcases Nat.lt_or_ge i j with q | q
    · exact q
    · have := Nat.mul_le_mul_right s q; omega
  have := Nat.mul_le_mul_right s (show i + 1 ≤ j by omega)
  rw [Nat.succ_mul] at this
  exact this
def CutAt (n : Nat) (l : List Int) (c : Nat) : Prop := ∀ x y, x < c → c ≤ y → y < n → nth l x < nth l y
theorem CutAt.sm {n : Nat} {l T : List Int} {a b c : Nat} (h : CutAt n l c) (hs : Sm T l a b) (hb : b ≤ n) (hc : c ≤ a ∨ b ≤ c) : CutAt n T c := fun x y hx hy hn => by
  obtain ⟨x', x1, ex⟩ : ∃ x', x' < c ∧ nth T x = nth l x' := by
    by_cases q : a ≤ x ∧ x < b
    · obtain ⟨z, z1, z2, e⟩ := hs.2.1 x q.1 q.2
      exact ⟨z, by omega, e⟩
    · exact ⟨x, hx, hs.1 x q⟩
  obtain ⟨y', y1, y2, ey⟩ : ∃ y', c ≤ y' ∧ y' < n ∧ nth T y = nth l y' := by
    by_cases q : a ≤ y ∧ y < b
    · obtain ⟨z, z1, z2, e⟩ := hs.2.1 y q.1 q.2
      exact ⟨z, by omega, by omega, e⟩
    · exact ⟨y, hy, hn, hs.1 y q⟩
  rw [ex, ey]
  exact h x' y' x1 y1 y2
structure In1 (K : Int → Int) (n : Nat) (l : List Int) (a : Nat) (cur : List Int) : Prop where
  c1 : ∀ c, a ≤ c → CutAt n cur c
  c2 : ∀ c, Bs 20 c → CutAt n cur c
  u : ∀ x, Bs 20 x → x + 20 ≤ a → Up K cur x (x + 20)
  sm : Sm cur l 0 n
structure Srt (K : Int → Int) (n : Nat) (l : List Int) (s : Nat) (cur : List Int) : Prop where
  c : ∀ c, Bs s c → CutAt n cur c
  u : ∀ x, Bs s x → Up K cur x (min (x + s) n)
  sm : Sm cur l 0 n
structure In2 (K : Int → Int) (n : Nat) (l : List Int) (s a : Nat) (cur : List Int) : Prop where
  c1 : ∀ c, Bs (2 * s) c → CutAt n cur c
  c2 : ∀ c, Bs s c → a ≤ c → CutAt n cur c
  u1 : ∀ x, Bs (2 * s) x → x + 2 * s ≤ a → Up K cur x (x + 2 * s)
  u2 : ∀ x, Bs s x → a ≤ x → Up K cur x (min (x + s) n)
  sm : Sm cur l 0 n
theorem up_sm {K : Int → Int} {T l : List Int} {a b x y : Nat} (h : Up K l x y) (hs : Sm T l a b) (q : y ≤ a ∨ b ≤ x) : Up K T x y := h.congr fun z z1 z2 => hs.1 z (by omega)
theorem in1_step {K : Int → Int} {n a : Nat} {l cur T : List Int} (h : In1 K n l a cur) (ha : Bs 20 a) (hb : a + 20 ≤ n) (hs : Sm T cur a (a + 20)) (hu : Up K T a (a + 20)) : In1 K n l (a + 20) T :=
  ⟨fun c hc => (h.c1 c (by omega)).sm hs hb (by omega),
   fun c hc => (h.c2 c hc).sm hs hb (by rcases Nat.lt_or_ge a c with q | q; have := ha.gap hc q; omega; omega),
   fun x hx h1 => by
    rcases Nat.lt_or_ge x a with q | q
    · have := hx.gap ha q
      exact up_sm (h.u x hx (by omega)) hs (by omega)
    · obtain rfl : x = a := by omega
      exact hu,
   (hs.wide (by omega) hb).trans h.sm⟩
theorem in1_end {K : Int → Int} {n a : Nat} {l cur T : List Int} (h : In1 K n l a cur) (ha : Bs 20 a) (han : a ≤ n) (hb : n < a + 20) (hs : Sm T cur a n) (hu : Up K T a n) : Srt K n l 20 T :=
  ⟨fun c hc => (h.c2 c hc).sm hs (Nat.le_refl _) (by rcases Nat.lt_or_ge a c with q | q; have := ha.gap hc q; omega; omega),
   fun x hx => by
    rcases Nat.lt_or_ge x a with q | q
    · have := hx.gap ha q
      exact (up_sm (h.u x hx (by omega)) hs (by omega)).sub (Nat.le_refl _) (by omega)
    · exact hu.sub q (by omega),
   (hs.wide (by omega) (Nat.le_refl _)).trans h.sm⟩
theorem srt_in2 {K : Int → Int} {n s : Nat} {l cur : List Int} (h : Srt K n l s cur) (hs : 0 < s) : In2 K n l s 0 cur :=
  ⟨fun c hc => h.c c hc.dbl, fun c hc _ => h.c c hc, fun x hx q => by omega, fun x hx _ => h.u x hx, h.sm⟩
theorem in2_step {K : Int → Int} {n s a : Nat} {l cur T : List Int} (h : In2 K n l s a cur) (ha : Bs (2 * s) a) (hb : a + 2 * s ≤ n) (hs : Sm T cur a (a + 2 * s)) (hu : Up K T a (a + 2 * s)) : In2 K n l s (a + 2 * s) T :=
  ⟨fun c hc => (h.c1 c hc).sm hs hb (by rcases Nat.lt_or_ge a c with q | q; have := ha.gap hc q; omega; omega),
   fun c hc q => (h.c2 c hc (by omega)).sm hs hb (by omega),
   fun x hx h1 => by
    rcases Nat.lt_or_ge x a with q | q
    · have := hx.gap ha q
      exact up_sm (h.u1 x hx (by omega)) hs (by omega)
    · rcases Nat.lt_or_ge a x with q2 | q2
      · have := ha.gap hx q2; omega
      · obtain rfl : x = a := by omega
        exact hu,
   fun x hx q => up_sm (h.u2 x hx (by omega)) hs (by omega),
   (hs.wide (by omega) hb).trans h.sm⟩
theorem in2_end {K : Int → Int} {n s a : Nat} {l cur T : List Int} (h : In2 K n l s a cur) (ha : Bs (2 * s) a) (han : a ≤ n) (hb : n < a + 2 * s) (hs : Sm T cur a n) (hu : Up K T a n) : Srt K n l (2 * s) T :=
  ⟨fun c hc => (h.c1 c hc).sm hs (Nat.le_refl _) (by rcases Nat.lt_or_ge a c with q | q; have := ha.gap hc q; omega; omega),
   fun x hx => by
    rcases Nat.lt_or_ge x a with q | q
    · have := hx.gap ha q
      exact (up_sm (h.u1 x hx (by omega)) hs (by omega)).sub (Nat.le_refl _) (by omega)
    · exact hu.sub q (by omega),
   (hs.wide (by omega) (Nat.le_refl _)).trans h.sm⟩
theorem Sm.all {T l : List Int} {n : Nat} (h : Sm T l 0 n) (hr : Rng n l) : Rng n T := h.rng (Nat.le_refl _) hr
attribute [irreducible] Bs CutAt
set_option maxRecDepth 100000 in
set_option maxHeartbeats 8000000 in
theorem stable_any (c : Int → Int → Int) (hcb : ∀ x y, -1 ≤ c x y ∧ c x y ≤ 1) (K : Int → Int) (B g n cap : Nat) (hk : Cmpt c K n) (p1 p2 : Value) (w0 : World) (hc : Cmp26 c n p1 p2 B w0) (hn : n ≤ 1000) (hcap : n ≤ cap) (hcap2 : cap ≤ 9223372036854775807)
    (l : List Int) (hr : Rng n l) (hrise : ∀ x y, x < y → y < n → nth l x < nth l y) (w : World) (ho : Own B g n cap l w0 w) :
    Calls Try.prog 58 #[.slice (some ⟨g, 0, none⟩) n cap, .int .i64 n, .func (.func 41) #[] #[p1, p2]] w (MrgP K B g n cap l 0 n w0) := by
  have HO := Lib.hid ho
  have HS0 : Hid (In1 K n l 0 l) := ⟨fun c _ => by unfold CutAt; exact fun x y h1 h2 h3 => hrise x y (by omega) h3, fun c _ => by unfold CutAt; exact fun x y h1 h2 h3 => hrise x y (by omega) h3, fun x _ h => by omega, Sm.refl _ _ _⟩
  have ins : ∀ (a b : Nat) (cur : List Int), In1 K n l a cur → a ≤ b → b ≤ n → ∀ W, Own B g n cap cur w0 W →
      Calls Try.prog 65 #[.slice (some ⟨g, 0, none⟩) n cap, .int .i64 a, .int .i64 b, .func (.func 41) #[] #[p1, p2]] W fun e w' => e = .returned (.tuple #[]) ∧ ∃ T, Sm T cur a b ∧ Up K T a b ∧ Own B g n cap T w0 w' := fun a b cur h1 hab hb W hO => by
    refine (ins26_any c hcb B g n cap p1 p2 w0 hc hn hcap hcap2 a b hab hb cur (h1.sm.all hr) W hO).mono ?_
    rintro e w' ⟨he, hO'⟩
    refine ⟨he, _, ?_, ?_, hO'⟩
    · by_cases q : a = b
      · subst q; rw [show a - (a + 1) = 0 by omega, insOut_zero]; exact Sm.refl _ _ _
      · have := (ins_up hk a cur hO.1 (h1.sm.all hr) (b - (a + 1)) (a + 1) cur hO.1 (by omega) (by omega) (Sm.refl _ _ _) (Up.short (by omega)) (fun x y q1 q2 q3 => by have := h1.c1 y (by omega); unfold CutAt at this; exact this x y q2 (Nat.le_refl _) (by omega))).1
        rw [show a + 1 + (b - (a + 1)) = b by omega] at this
        exact this
    · by_cases q : a = b
      · subst q; exact Up.short (by omega)
      · have := (ins_up hk a cur hO.1 (h1.sm.all hr) (b - (a + 1)) (a + 1) cur hO.1 (by omega) (by omega) (Sm.refl _ _ _) (Up.short (by omega)) (fun x y q1 q2 q3 => by have := h1.c1 y (by omega); unfold CutAt at this; exact this x y q2 (Nat.le_refl _) (by omega))).2
        rw [show a + 1 + (b - (a + 1)) = b by omega] at this
        exact this
  have HI1 : Hid (∀ (a : Nat) (cur : List Int), In1 K n l a cur → Bs 20 a → a + 20 ≤ n → ∀ W, Own B g n cap cur w0 W →
      Calls Try.prog 65 #[.slice (some ⟨g, 0, none⟩) n cap, .int .i64 a, .int .i64 (a + 20 : Nat), .func (.func 41) #[] #[p1, p2]] W fun e w' => e = .returned (.tuple #[]) ∧ ∃ T, In1 K n l (a + 20) T ∧ Own B g n cap T w0 w') := fun a cur h1 ha hb W hO => by
    refine (ins a (a + 20) cur h1 (by omega) hb W hO).mono ?_
    rintro e w' ⟨he, T, t1, t2, t3⟩
    exact ⟨he, T, in1_step h1 ha hb t1 t2, t3⟩
  have HI2 : Hid (∀ (a : Nat) (cur : List Int), In1 K n l a cur → Bs 20 a → a ≤ n → n < a + 20 → ∀ W, Own B g n cap cur w0 W →
      Calls Try.prog 65 #[.slice (some ⟨g, 0, none⟩) n cap, .int .i64 a, .int .i64 n, .func (.func 41) #[] #[p1, p2]] W fun e w' => e = .returned (.tuple #[]) ∧ ∃ T, Srt K n l 20 T ∧ Own B g n cap T w0 w') := fun a cur h1 ha han hb W hO => by
    refine (ins a n cur h1 han (Nat.le_refl _) W hO).mono ?_
    rintro e w' ⟨he, T, t1, t2, t3⟩
    exact ⟨he, T, in1_end h1 ha han hb t1 t2, t3⟩
  have HM1 : Hid (∀ (s a : Nat) (cur : List Int), 0 < s → In2 K n l s a cur → Bs (2 * s) a → a + 2 * s ≤ n → ∀ W, Own B g n cap cur w0 W →
      Calls Try.prog 66 #[.slice (some ⟨g, 0, none⟩) n cap, .int .i64 a, .int .i64 (a + s : Nat), .int .i64 (a + 2 * s : Nat), .func (.func 41) #[] #[p1, p2]] W fun e w' => e = .returned (.tuple #[]) ∧ ∃ T, In2 K n l s (a + 2 * s) T ∧ Own B g n cap T w0 w') := fun s a cur hs h1 ha hb W hO => by
    have u1 := h1.u2 a ha.dbl (Nat.le_refl _)
    rw [show min (a + s) n = a + s by omega] at u1
    have u2 := h1.u2 (a + s) ha.dbl.add (by omega)
    rw [show min (a + s + s) n = a + 2 * s by omega] at u2
    have hl := h1.c2 (a + s) ha.dbl.add (by omega)
    unfold CutAt at hl
    refine (sym_any c hcb K B g n cap hk p1 p2 w0 hc hn hcap hcap2 (2 * s) a (a + s) (a + 2 * s) cur (by omega) (by omega) (by omega) hb (h1.sm.all hr) u1 u2 (fun x y q1 q2 q3 q4 => hl x y q2 q3 (by omega)) W hO).mono ?_
    rintro e w' ⟨he, T, t1, t2, t3⟩
    exact ⟨he, T, in2_step h1 ha hb t1 t2, t3⟩
  have HM2 : Hid (∀ (s a : Nat) (cur : List Int), 0 < s → In2 K n l s a cur → Bs (2 * s) a → a + s < n → n < a + 2 * s → ∀ W, Own B g n cap cur w0 W →
      Calls Try.prog 66 #[.slice (some ⟨g, 0, none⟩) n cap, .int .i64 a, .int .i64 (a + s : Nat), .int .i64 n, .func (.func 41) #[] #[p1, p2]] W fun e w' => e = .returned (.tuple #[]) ∧ ∃ T, Srt K n l (2 * s) T ∧ Own B g n cap T w0 w') := fun s a cur hs h1 ha hb hb2 W hO => by
    have u1 := h1.u2 a ha.dbl (Nat.le_refl _)
    rw [show min (a + s) n = a + s by omega] at u1
    have u2 := h1.u2 (a + s) ha.dbl.add (by omega)
    rw [show min (a + s + s) n = n by omega] at u2
    have hl := h1.c2 (a + s) ha.dbl.add (by omega)
    unfold CutAt at hl
    refine (sym_any c hcb K B g n cap hk p1 p2 w0 hc hn hcap hcap2 n a (a + s) n cur (by omega) (by omega) hb (Nat.le_refl _) (h1.sm.all hr) u1 u2 (fun x y q1 q2 q3 q4 => hl x y q2 q3 (by omega)) W hO).mono ?_
    rintro e w' ⟨he, T, t1, t2, t3⟩
    exact ⟨he, T, in2_end h1 ha (by omega) hb2 t1 t2, t3⟩
  have HM3 : Hid (∀ (s a : Nat) (cur : List Int), In2 K n l s a cur → Bs (2 * s) a → a ≤ n → n ≤ a + s → 0 < s → Srt K n l (2 * s) cur) := fun s a cur h1 ha han hb hs => by
    have u1 := h1.u2 a ha.dbl (Nat.le_refl _)
    rw [show min (a + s) n = n by omega] at u1
    exact in2_end h1 ha han (by omega) (Sm.refl _ _ _) u1
  have HF : Hid (∀ (s : Nat) (cur : List Int), Srt K n l s cur → n ≤ s → Sm cur l 0 n ∧ Up K cur 0 n) := fun s cur h q => by
    have := h.u 0 (Bs.zero s)
    rw [show min (0 + s) n = n by omega] at this
    exact ⟨h.sm, this⟩
  have HI0 : Hid (∀ (s : Nat) (cur : List Int), 0 < s → Srt K n l s cur → In2 K n l s 0 cur) := fun s cur h q => srt_in2 q h
  have HB0 := Lib.hid (fun s => Bs.zero s)
  have HBa := Lib.hid (fun (s x : Nat) (h : Bs s x) => h.add)
  clear ho hc hcb hk hr hrise ins
  go_enter Try.func58, Try.ntmps58
  go_wp2
  go_loopw [7, 8] (fun p q wr => ∃ (a : Nat) (cur : List Int), a ≤ n ∧ p = .int .i64 a ∧ q = .int .i64 (a + 20 : Nat) ∧ Hid (Bs 20 a) ∧ Hid (In1 K n l a cur) ∧ Hid (Own B g n cap cur w0 wr)) (fun p _ _ => n - (intOf p).toNat)
  case atStart => exact ⟨0, l, by omega, rfl, rfl, HB0.out 20, HS0, HO⟩
  case round =>
    clear HO HS0
    obtain ⟨a, cur, ha, rfl, rfl, HBa0, HN, HO⟩ := hrel
    by_cases hlt : a + 20 ≤ n
    · have q1 : (a : Int) + 20 ≤ (n : Int) := by omega
      have HQ := Lib.hid (HI1.out a cur HN.out HBa0.out hlt wr HO.out)
      go_wp2_with fail
      refine HQ.out.mono ?_; rintro e w1 ⟨rfl, T, t1, t2⟩
      have HT := Lib.hid t1
      have HO1 := Lib.hid t2
      have HBn : Hid (Bs 20 (a + 20)) := HBa.out _ _ HBa0.out
      clear t1 t2 HQ HO HN
      go_wp2
      go_roundw
      case rel => exact ⟨a + 20, T, hlt, by go_num, by go_num, HBn, HT, HO1⟩
      case measure => simp [intOf]; omega
    · have q1 : ¬ (a : Int) + 20 ≤ (n : Int) := by omega
      have HQ := Lib.hid (HI2.out a cur HN.out HBa0.out ha (by omega) wr HO.out)
      go_wp2_with fail
      refine HQ.out.mono ?_; rintro e w1 ⟨rfl, T, t1, t2⟩
      have HT := Lib.hid t1
      have HO1 := Lib.hid t2
      clear t1 t2 HQ HO HN HBa0
      go_wp2
      go_loopw [6] (fun p wr => ∃ (s : Nat) (cur : List Int), 0 < s ∧ s ≤ 2000 ∧ p = .int .i64 s ∧ Hid (Srt K n l s cur) ∧ Hid (Own B g n cap cur w0 wr)) (fun p _ => n - (intOf p).toNat)
      case atStart => exact ⟨20, T, by omega, by omega, rfl, HT, HO1⟩
      case round =>
        clear HO1 HT
        obtain ⟨s, cur2, hs, hs2, rfl, HN, HO⟩ := hrel
        by_cases hsn : s < n
        · have q2 : (s : Int) < (n : Int) := by omega
          go_wp2
          go_loopw [7, 8] (fun p q wr => ∃ (a : Nat) (cur : List Int), a ≤ n ∧ p = .int .i64 a ∧ q = .int .i64 (a + 2 * s : Nat) ∧ Hid (Bs (2 * s) a) ∧ Hid (In2 K n l s a cur) ∧ Hid (Own B g n cap cur w0 wr)) (fun p _ _ => n - (intOf p).toNat)
          case atStart => exact ⟨0, cur2, by omega, rfl, by go_num, HB0.out _, HI0.out s cur2 hs HN.out, HO⟩
          case round =>
            clear HO HN
            obtain ⟨a2, cur3, ha2, rfl, rfl, HB2, HN, HO⟩ := hrel
            by_cases hl2 : a2 + 2 * s ≤ n
            · have q3 : (a2 : Int) + 2 * (s : Int) ≤ (n : Int) := by omega
              have HQ := Lib.hid (HM1.out s a2 cur3 hs HN.out HB2.out hl2 wr HO.out)
              go_wp2_with fail
              refine HQ.out.mono ?_; rintro e w1 ⟨rfl, T, t1, t2⟩
              have HT := Lib.hid t1
              have HO1 := Lib.hid t2
              have HBn : Hid (Bs (2 * s) (a2 + 2 * s)) := HBa.out _ _ HB2.out
              clear t1 t2 HQ HO HN
              go_wp2
              go_roundw
              case rel => exact ⟨a2 + 2 * s, T, hl2, by go_num, by go_num, HBn, HT, HO1⟩
              case measure => simp [intOf]; omega
            · have q3 : ¬ (a2 : Int) + 2 * (s : Int) ≤ (n : Int) := by omega
              by_cases hl3 : a2 + s < n
              · have q4 : (a2 : Int) + (s : Int) < (n : Int) := by omega
                have HQ := Lib.hid (HM2.out s a2 cur3 hs HN.out HB2.out hl3 (by omega) wr HO.out)
                go_wp2_with fail
                refine HQ.out.mono ?_; rintro e w1 ⟨rfl, T, t1, t2⟩
                have HT := Lib.hid t1
                have HO1 := Lib.hid t2
                clear t1 t2 HQ HO HN HB2
                go_wp2
                go_roundw
                case rel => exact ⟨2 * s, T, by omega, by omega, by go_num, HT, HO1⟩
                case measure => simp [intOf]; omega
              · have q4 : ¬ (a2 : Int) + (s : Int) < (n : Int) := by omega
                have HT := Lib.hid (HM3.out s a2 cur3 HN.out HB2.out ha2 (by omega) hs)
                clear HN HB2
                go_wp2
                go_roundw
                case rel => exact ⟨2 * s, cur3, by omega, by omega, by go_num, HT, HO⟩
                case measure => simp [intOf]; omega
        · have q2 : ¬ (s : Int) < (n : Int) := by omega
          go_wp2
          go_end0
          exact ⟨rfl, cur2, (HF.out s cur2 HN.out (by omega)).1, (HF.out s cur2 HN.out (by omega)).2, HO.out⟩
end Go.Proofs.Yteoionlnnjcggaa.od

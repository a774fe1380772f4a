/-
  slices.SortStableFunc of a list of rising numbers: what it leaves.
-/
import Derived.Test.YtlhpiikpmmlpeaaDoorOdSymC
namespace Go.Proofs.YtlhpiikpmmlpeaaDoor.od
open Go.RowKit
set_option linter.unusedVariables false
variable {N : Nat}
/-- a multiple of the block's size -/
def Bs (s x : Nat) : Prop := ∃ k, x = k * s
theorem Bs.zero (s : Nat) : Bs s 0 := ⟨0, by simp⟩
theorem Bs.add {s x : Nat} (h : Bs s x) : Bs s (x + s) := by
  obtain ⟨k, rfl⟩ := h
  exact ⟨k + 1, by rw [Nat.succ_mul]⟩
theorem Bs.dbl {s x : Nat} (h : Bs (2 * s) x) : Bs s x := by
  obtain ⟨k, rfl⟩ := h
  exact ⟨k * 2, by rw [Nat.mul_assoc]⟩
theorem Bs.gap {s x y : Nat} (h : Bs s x) (k : Bs s y) (hlt : x < y) : x + s ≤ y := by
  obtain ⟨i, rfl⟩ := h
  obtain ⟨j, rfl⟩ := k
  have : i < j := by
    rcases Nat.lt_or_ge i j with q | q
    · exact q
    · have := Nat.mul_le_mul_right s q; omega
  have := Nat.mul_le_mul_right s (show i + 1 ≤ j by omega)
  rw [Nat.succ_mul] at this
  exact this
def CutAt (n : Nat) (l : List Int) (c : Nat) : Prop := ∀ x y, x < c → c ≤ y → y < n → nth l x < nth l y
theorem CutAt.sm {n : Nat} {l T : List Int} {a b c : Nat} (h : CutAt n l c) (hs : Sm T l a b) (hb : b ≤ n) (hc : c ≤ a ∨ b ≤ c) : CutAt n T c := fun x y hx hy hn => by
  obtain ⟨x', x1, ex⟩ : ∃ x', x' < c ∧ nth T x = nth l x' := by
    by_cases q : a ≤ x ∧ x < b
    · obtain ⟨z, z1, z2, e⟩ := hs.2.1 x q.1 q.2
      exact ⟨z, by omega, e⟩
    · exact ⟨x, hx, hs.1 x q⟩
  obtain ⟨y', y1, y2, ey⟩ : ∃ y', c ≤ y' ∧ y' < n ∧ nth T y = nth l y' := by
    by_cases q : a ≤ y ∧ y < b
    · obtain ⟨z, z1, z2, e⟩ := hs.2.1 y q.1 q.2
      exact ⟨z, by omega, by omega, e⟩
    · exact ⟨y, hy, hn, hs.1 y q⟩
  rw [ex, ey]
  exact h x' y' x1 y1 y2
structure In1 (K : Int → Int) (n : Nat) (l : List Int) (a : Nat) (cur : List Int) : Prop where
  c1 : ∀ c, a ≤ c → CutAt n cur c
  c2 : ∀ c, Bs 20 c → CutAt n cur c
  u : ∀ x, Bs 20 x → x + 20 ≤ a → Up K cur x (x + 20)
  sm : Sm cur l 0 n
structure Srt (K : Int → Int) (n : Nat) (l : List Int) (s : Nat) (cur : List Int) : Prop where
  c : ∀ c, Bs s c → CutAt n cur c
  u : ∀ x, Bs s x → Up K cur x (min (x + s) n)
  sm : Sm cur l 0 n
structure In2 (K : Int → Int) (n : Nat) (l : List Int) (s a : Nat) (cur : List Int) : Prop where
  c1 : ∀ c, Bs (2 * s) c → CutAt n cur c
  c2 : ∀ c, Bs s c → a ≤ c → CutAt n cur c
  u1 : ∀ x, Bs (2 * s) x → x + 2 * s ≤ a → Up K cur x (x + 2 * s)
  u2 : ∀ x, Bs s x → a ≤ x → Up K cur x (min (x + s) n)
  sm : Sm cur l 0 n
theorem up_sm {K : Int → Int} {T l : List Int} {a b x y : Nat} (h : Up K l x y) (hs : Sm T l a b) (q : y ≤ a ∨ b ≤ x) : Up K T x y := h.congr fun z z1 z2 => hs.1 z (by omega)
theorem in1_step {K : Int → Int} {n a : Nat} {l cur T : List Int} (h : In1 K n l a cur) (ha : Bs 20 a) (hb : a + 20 ≤ n) (hs : Sm T cur a (a + 20)) (hu : Up K T a (a + 20)) : In1 K n l (a + 20) T :=
  ⟨fun c hc => (h.c1 c (by omega)).sm hs hb (by omega),
   fun c hc => (h.c2 c hc).sm hs hb (by rcases Nat.lt_or_ge a c with q | q; have := ha.gap hc q; omega; omega),
   fun x hx h1 => by
    rcases Nat.lt_or_ge x a with q | q
    · have := hx.gap ha q
      exact up_sm (h.u x hx (by omega)) hs (by omega)
    · obtain rfl : x = a := by omega
      exact hu,
   (hs.wide (by omega) hb).trans h.sm⟩
theorem in1_end {K : Int → Int} {n a : Nat} {l cur T : List Int} (h : In1 K n l a cur) (ha : Bs 20 a) (han : a ≤ n) (hb : n < a + 20) (hs : Sm T cur a n) (hu : Up K T a n) : Srt K n l 20 T :=
  ⟨fun c hc => (h.c2 c hc).sm hs (Nat.le_refl _) (by rcases Nat.lt_or_ge a c with q | q; have := ha.gap hc q; omega; omega),
   fun x hx => by
    rcases Nat.lt_or_ge x a with q | q
    · have := hx.gap ha q
      exact (up_sm (h.u x hx (by omega)) hs (by omega)).sub (Nat.le_refl _) (by omega)
    · exact hu.sub q (by omega),
   (hs.wide (by omega) (Nat.le_refl _)).trans h.sm⟩
theorem srt_in2 {K : Int → Int} {n s : Nat} {l cur : List Int} (h : Srt K n l s cur) (hs : 0 < s) : In2 K n l s 0 cur :=
  ⟨fun c hc => h.c c hc.dbl, fun c hc _ => h.c c hc, fun x hx q => by omega, fun x hx _ => h.u x hx, h.sm⟩
theorem in2_step {K : Int → Int} {n s a : Nat} {l cur T : List Int} (h : In2 K n l s a cur) (ha : Bs (2 * s) a) (hb : a + 2 * s ≤ n) (hs : Sm T cur a (a + 2 * s)) (hu : Up K T a (a + 2 * s)) : In2 K n l s (a + 2 * s) T :=
  ⟨fun c hc => (h.c1 c hc).sm hs hb (by rcases Nat.lt_or_ge a c with q | q; have := ha.gap hc q; omega; omega),
   fun c hc q => (h.c2 c hc (by omega)).sm hs hb (by omega),
   fun x hx h1 => by
    rcases Nat.lt_or_ge x a with q | q
    · have := hx.gap ha q
      exact up_sm (h.u1 x hx (by omega)) hs (by omega)
    · rcases Nat.lt_or_ge a x with q2 | q2
      · have := ha.gap hx q2; omega
      · obtain rfl : x = a := by omega
        exact hu,
   fun x hx q => up_sm (h.u2 x hx (by omega)) hs (by omega),
   (hs.wide (by omega) hb).trans h.sm⟩
theorem in2_end {K : Int → Int} {n s a : Nat} {l cur T : List Int} (h : In2 K n l s a cur) (ha : Bs (2 * s) a) (han : a ≤ n) (hb : n < a + 2 * s) (hs : Sm T cur a n) (hu : Up K T a n) : Srt K n l (2 * s) T :=
  ⟨fun c hc => (h.c1 c hc).sm hs (Nat.le_refl _) (by rcases Nat.lt_or_ge a c with q | q; have := ha.gap hc q; omega; omega),
   fun x hx => by
    rcases Nat.lt_or_ge x a with q | q
    · have := hx.gap ha q
      exact (up_sm (h.u1 x hx (by omega)) hs (by omega)).sub (Nat.le_refl _) (by omega)
    · exact hu.sub q (by omega),
   (hs.wide (by omega) (Nat.le_refl _)).trans h.sm⟩
theorem Sm.all {T l : List Int} {n : Nat} (h : Sm T l 0 n) (hr : Rng N n l) : Rng N n T := h.rng (Nat.le_refl _) hr
attribute [irreducible] Bs CutAt
end Go.Proofs.YtlhpiikpmmlpeaaDoor.od

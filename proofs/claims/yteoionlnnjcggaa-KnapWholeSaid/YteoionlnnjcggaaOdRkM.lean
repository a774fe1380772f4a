/-
  Orders told by how many stand ahead of each: plain mathematics.
-/
import Derived.Test.YteoionlnnjcggaaOdStab
namespace Go.Proofs.Yteoionlnnjcggaa.od
open Go.RowKit
set_option linter.unusedVariables false
/-- of how many numbers below n p tells yes -/
def cb (p : Nat → Bool) : Nat → Nat
  | 0 => 0
  | n + 1 => cb p n + (if p n = true then 1 else 0)
theorem cb_zero (p : Nat → Bool) : cb p 0 = 0 := rfl
theorem cb_yes {p : Nat → Bool} {n : Nat} (h : p n = true) : cb p (n + 1) = cb p n + 1 := by unfold cb; rw [if_pos h]; cases n <;> rfl
theorem cb_no {p : Nat → Bool} {n : Nat} (h : ¬ p n = true) : cb p (n + 1) = cb p n := by show cb p n + (if p n = true then 1 else 0) = _; rw [if_neg h]; rfl
theorem cb_le (p : Nat → Bool) : ∀ n, cb p n ≤ n
  | 0 => Nat.le_refl _
  | n + 1 => by
    have := cb_le p n
    by_cases h : p n = true
    · rw [cb_yes h]; omega
    · rw [cb_no h]; omega
theorem cb_mono {p q : Nat → Bool} : ∀ n, (∀ z, z < n → p z = true → q z = true) → cb p n ≤ cb q n
  | 0, _ => Nat.le_refl _
  | n + 1, h => by
    have := cb_mono n (fun z hz => h z (by omega))
    by_cases hp : p n = true
    · rw [cb_yes hp, cb_yes (h n (by omega) hp)]; omega
    · rw [cb_no hp]
      by_cases hq : q n = true
      · rw [cb_yes hq]; omega
      · rw [cb_no hq]; omega
theorem cb_strict {p q : Nat → Bool} : ∀ n, (∀ z, z < n → p z = true → q z = true) → (∃ a, a < n ∧ q a = true ∧ ¬ p a = true) → cb p n < cb q n
  | 0, _, ⟨a, h, _⟩ => absurd h (by omega)
  | n + 1, h, ⟨a, ha, hq, hp⟩ => by
    by_cases e : a = n
    · subst e
      have := cb_mono a (fun z hz => h z (by omega))
      rw [cb_no hp, cb_yes hq]; omega
    · have := cb_strict n (fun z hz => h z (by omega)) ⟨a, by omega, hq, hp⟩
      by_cases hp : p n = true
      · rw [cb_yes hp, cb_yes (h n (by omega) hp)]; omega
      · rw [cb_no hp]
        by_cases hq : q n = true
        · rw [cb_yes hq]; omega
        · rw [cb_no hq]; omega
theorem cb_lt {p : Nat → Bool} {n a : Nat} (ha : a < n) (h : ¬ p a = true) : cb p n < n := by
  have h1 := cb_strict (p := p) (q := fun _ => true) n (fun _ _ _ => rfl) ⟨a, ha, rfl, h⟩
  have h2 := cb_le (fun _ => true) n
  omega
theorem cb_congr {p q : Nat → Bool} : ∀ n, (∀ z, z < n → p z = q z) → cb p n = cb q n
  | 0, _ => rfl
  | n + 1, h => by
    have := cb_congr n (fun z hz => h z (by omega))
    show cb p n + (if p n = true then 1 else 0) = cb q n + (if q n = true then 1 else 0)
    rw [this, h n (by omega)]
attribute [irreducible] cb
/-- an order of the numbers below n -/
structure LtO (n : Nat) (lt : Nat → Nat → Bool) : Prop where
  irr : ∀ a, a < n → ¬ lt a a = true
  tr : ∀ a b c, a < n → b < n → c < n → lt a b = true → lt b c = true → lt a c = true
  tot : ∀ a b, a < n → b < n → a ≠ b → lt a b = true ∨ lt b a = true
/-- how many stand ahead of one -/
def rko (lt : Nat → Nat → Bool) (n a : Nat) : Nat := cb (fun z => lt z a) n
theorem rko_lt {n : Nat} {lt : Nat → Nat → Bool} (h : LtO n lt) {a b : Nat} (ha : a < n) (hb : b < n) (hab : lt a b = true) : rko lt n a < rko lt n b :=
  cb_strict n (fun z hz hza => h.tr z a b hz ha hb hza hab) ⟨a, ha, hab, h.irr a ha⟩
theorem rko_in {n : Nat} {lt : Nat → Nat → Bool} (h : LtO n lt) {a : Nat} (ha : a < n) : rko lt n a < n := cb_lt ha (h.irr a ha)
theorem rko_ne {n : Nat} {lt : Nat → Nat → Bool} (h : LtO n lt) {a b : Nat} (ha : a < n) (hb : b < n) (hab : a ≠ b) : rko lt n a ≠ rko lt n b := by
  rcases h.tot a b ha hb hab with q | q
  · have := rko_lt h ha hb q; omega
  · have := rko_lt h hb ha q; omega
theorem rko_iff {n : Nat} {lt : Nat → Nat → Bool} (h : LtO n lt) {a b : Nat} (ha : a < n) (hb : b < n) : rko lt n a < rko lt n b ↔ lt a b = true := by
  refine ⟨fun q => ?_, rko_lt h ha hb⟩
  by_cases e : a = b
  · subst e; omega
  · rcases h.tot a b ha hb e with r | r
    · exact r
    · have := rko_lt h hb ha r; omega
/-- each stands where its rank says -/
def IsRk (lt : Nat → Nat → Bool) (n : Nat) (T : List Int) : Prop := T.length = n ∧ ∀ a, a < n → nth T (rko lt n a) = (a : Int)
/-- .. and each place has one -/
def OnRk (lt : Nat → Nat → Bool) (n : Nat) (T : List Int) : Prop := ∀ x, x < n → ∃ a, a < n ∧ rko lt n a = x ∧ nth T x = (a : Int)
theorem isRk_one {lt : Nat → Nat → Bool} {n : Nat} {T U : List Int} (hT : IsRk lt n T) (hO : OnRk lt n T) (hU : IsRk lt n U) : U = T := by
  refine nth_ext _ _ (by rw [hU.1, hT.1]) (fun x hx => ?_)
  rw [hU.1] at hx
  obtain ⟨a, ha, hr, e⟩ := hO x hx
  rw [e, ← hr]
  exact hU.2 a ha
theorem cmpt_of {n : Nat} {lt : Nat → Nat → Bool} (h : LtO n lt) {c : Int → Int → Int} (hc : ∀ x y : Nat, x < y → y < n → (c y x < 0 ↔ lt y x = true)) : Cmpt c (fun z => (rko lt n z.toNat : Int)) n := fun x y h0 h1 h2 => by
  obtain ⟨a, rfl⟩ : ∃ a : Nat, x = a := ⟨x.toNat, by omega⟩
  obtain ⟨b, rfl⟩ : ∃ b : Nat, y = b := ⟨y.toNat, by omega⟩
  have e := hc a b (by omega) (by omega)
  have r := rko_iff h (a := b) (b := a) (by omega) (by omega)
  have s := rko_ne h (a := a) (b := b) (by omega) (by omega) (by omega)
  simp only [Int.toNat_natCast]
  refine ⟨?_, by omega⟩
  rw [e, ← r]
  omega
theorem up_step {f : Nat → Nat} {n : Nat} (h : ∀ x y, x < y → y < n → f x < f y) : ∀ d x, x + d < n → f x + d ≤ f (x + d)
  | 0, x, _ => Nat.le_refl _
  | d + 1, x, hx => by
    have := up_step h d x (by omega)
    have := h (x + d) (x + (d + 1)) (by omega) hx
    omega
theorem rk_of_up {n : Nat} {lt : Nat → Nat → Bool} (h : LtO n lt) {T l : List Int} (hl : T.length = n) (hlen : l.length = n) (hlv : ∀ x, x < n → nth l x = (x : Int)) (hs : Sm T l 0 n) (hu : Up (fun z => (rko lt n z.toNat : Int)) T 0 n) : IsRk lt n T ∧ OnRk lt n T := by
  have hv : ∀ x, x < n → ∃ a, a < n ∧ nth T x = (a : Int) := fun x hx => by
    obtain ⟨y, _, y2, e⟩ := hs.2.1 x (Nat.zero_le _) hx
    exact ⟨y, y2, by rw [e, hlv y y2]⟩
  have hf : ∀ x y, x < y → y < n → rko lt n (nth T x).toNat < rko lt n (nth T y).toNat := fun x y h1 h2 => by
    have := hu x y (Nat.zero_le _) h1 h2
    simpa using this
  have hin : ∀ x, x < n → rko lt n (nth T x).toNat < n := fun x hx => by
    obtain ⟨a, ha, e⟩ := hv x hx
    rw [e, Int.toNat_natCast]; exact rko_in h ha
  have hid : ∀ x, x < n → rko lt n (nth T x).toNat = x := fun x hx => by
    have h1 := up_step hf x 0 (by omega)
    rw [Nat.zero_add] at h1
    have h2 := up_step hf (n - 1 - x) x (by omega)
    have h3 := hin (x + (n - 1 - x)) (by omega)
    omega
  refine ⟨⟨hl, fun a ha => ?_⟩, fun x hx => ?_⟩
  · obtain ⟨x, _, x2, e⟩ := hs.2.2 a (Nat.zero_le _) ha
    rw [hlv a ha] at e
    have := hid x x2
    rw [e, Int.toNat_natCast] at this
    rw [this, e]
  · obtain ⟨a, ha, e⟩ := hv x hx
    have := hid x hx
    rw [e, Int.toNat_natCast] at this
    exact ⟨a, ha, this, e⟩
end Go.Proofs.Yteoionlnnjcggaa.od

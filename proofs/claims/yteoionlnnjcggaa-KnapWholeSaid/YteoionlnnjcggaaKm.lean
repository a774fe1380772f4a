/-
  knap: why nothing costs less than Bound: what the items bring at most, of the best choice.
-/
import Derived.Test.YteoionlnnjcggaaKn
namespace Go.Proofs.Yteoionlnnjcggaa.kn
set_option linter.unusedVariables false
/-- the part that has room -/
theorem part_b {v r w : Int} (hv : 0 ≤ v) (hr : 0 ≤ r) (hw : 0 < w) : w * ((v.toNat * r.toNat / w.toNat : Nat) : Int) ≤ v * r ∧ v * r < w * ((v.toNat * r.toNat / w.toNat : Nat) : Int) + w := by
  obtain ⟨a, rfl⟩ : ∃ a : Nat, v = (a : Int) := ⟨_, (Int.toNat_of_nonneg hv).symm⟩
  obtain ⟨b, rfl⟩ : ∃ a : Nat, r = (a : Int) := ⟨_, (Int.toNat_of_nonneg hr).symm⟩
  obtain ⟨c, rfl⟩ : ∃ a : Nat, w = (a : Int) := ⟨_, (Int.toNat_of_nonneg (Int.le_of_lt hw)).symm⟩
  simp only [Int.toNat_natCast]
  have hc : 0 < c := by omega
  have e := Nat.div_add_mod (a * b) c
  have m := Nat.mod_lt (a * b) hc
  rw [← Int.natCast_mul, ← Int.natCast_mul]
  omega
theorem part_le {v r w z : Int} (hv : 0 ≤ v) (hr : 0 ≤ r) (hw : 0 < w) (h : z * w ≤ v * r) : z ≤ ((v.toNat * r.toNat / w.toNat : Nat) : Int) := by
  have b := (part_b hv hr hw).2
  generalize ((v.toNat * r.toNat / w.toNat : Nat) : Int) = q at *
  have e : w * q + w = (q + 1) * w := by rw [Int.add_mul, Int.mul_comm w q, Int.one_mul]
  have := Int.lt_of_mul_lt_mul_right (show z * w < (q + 1) * w from by omega) (Int.le_of_lt hw)
  omega
/-- items whose values are no better than v for the weight w bring at most v for each w of room -/
theorem gn_cap {Wl Vl : List Int} {v w : Int} (hv : 0 ≤ v) (hw : 0 ≤ w) : ∀ b j r, 0 ≤ r → (∀ i, j ≤ i → i < j + b → 0 ≤ nt Wl i ∧ 0 ≤ nt Vl i ∧ nt Vl i * w ≤ v * nt Wl i) → w * gn Wl Vl b j r ≤ v * r
  | 0, j, r, hr, _ => by rw [gn_zero]; simpa using Int.mul_nonneg hv hr
  | b + 1, j, r, hr, h => by
    obtain ⟨w0, v0, c⟩ := h j (Nat.le_refl _) (by omega)
    by_cases hlt : r < nt Wl j
    · rw [gn_part hlt]
      have hp : 0 < nt Wl j := by omega
      have p := (part_b v0 hr hp).1
      generalize (((nt Vl j).toNat * r.toNat / (nt Wl j).toNat : Nat) : Int) = q at *
      generalize nt Wl j = W at *
      generalize nt Vl j = V at *
      refine Int.le_of_mul_le_mul_left ?_ hp
      have s1 := Int.mul_le_mul_of_nonneg_left p hw
      have s2 := Int.mul_le_mul_of_nonneg_right c hr
      have e1 : W * (w * q) = w * (W * q) := by ac_rfl
      have e2 : w * (V * r) = V * w * r := by ac_rfl
      have e3 : v * W * r = W * (v * r) := by ac_rfl
      omega
    · rw [gn_step hlt]
      have ih := gn_cap hv hw b (j + 1) (r - nt Wl j) (by omega) (fun i h1 h2 => h i (by omega) (by omega))
      generalize gn Wl Vl b (j + 1) (r - nt Wl j) = g at *
      generalize nt Wl j = W at *
      generalize nt Vl j = V at *
      rw [Int.mul_sub] at ih
      rw [Int.mul_add, Int.mul_comm w V]
      omega
/-- the items from j on are in the order of what they bring for their weight -/
def Srt (Wl Vl : List Int) (j e : Nat) : Prop := ∀ i k, j ≤ i → i < k → k < e → nt Vl k * nt Wl i ≤ nt Vl i * nt Wl k
/-- what a room of w is worth -/
theorem gn_room {Wl Vl : List Int} {v w : Int} (hv : 0 ≤ v) (hw : 0 ≤ w) : ∀ b j r, w ≤ r → (∀ i, j ≤ i → i < j + b → 0 ≤ nt Wl i ∧ 0 ≤ nt Vl i ∧ nt Vl i * w ≤ v * nt Wl i) → Srt Wl Vl j (j + b) → gn Wl Vl b j r ≤ v + gn Wl Vl b j (r - w)
  | 0, j, r, hr, _, _ => by rw [gn_zero, gn_zero]; omega
  | b + 1, j, r, hr, h, hs => by
    obtain ⟨w0, v0, c⟩ := h j (Nat.le_refl _) (by omega)
    by_cases h1 : r - w < nt Wl j
    · have hp : 0 < nt Wl j := by omega
      rw [gn_part h1]
      by_cases h2 : r < nt Wl j
      · rw [gn_part h2]
        have p := (part_b v0 (show 0 ≤ r by omega) hp).1
        have q := part_le (z := (((nt Vl j).toNat * r.toNat / (nt Wl j).toNat : Nat) : Int) - v) v0 (show 0 ≤ r - w by omega) hp (by
          generalize (((nt Vl j).toNat * r.toNat / (nt Wl j).toNat : Nat) : Int) = q at *
          generalize nt Wl j = W at *
          generalize nt Vl j = V at *
          rw [Int.sub_mul, Int.mul_sub, Int.mul_comm q W]
          omega)
        omega
      · rw [gn_step h2]
        have ih := gn_cap (Wl := Wl) (Vl := Vl) v0 w0 b (j + 1) (r - nt Wl j) (by omega) (fun i a1 a2 => ⟨(h i (by omega) (by omega)).1, (h i (by omega) (by omega)).2.1, hs j i (Nat.le_refl _) (by omega) (by omega)⟩)
        have q := part_le (z := nt Vl j + gn Wl Vl b (j + 1) (r - nt Wl j) - v) v0 (show 0 ≤ r - w by omega) hp (by
          generalize gn Wl Vl b (j + 1) (r - nt Wl j) = g at *
          generalize nt Wl j = W at *
          generalize nt Vl j = V at *
          rw [Int.sub_mul, Int.add_mul, Int.mul_sub, Int.mul_comm g W]
          rw [Int.mul_sub] at ih
          omega)
        omega
    · rw [gn_step h1, gn_step (show ¬ r < nt Wl j by omega), show r - w - nt Wl j = r - nt Wl j - w by omega]
      have ih := gn_room hv hw b (j + 1) (r - nt Wl j) (by omega) (fun i a1 a2 => h i (by omega) (by omega)) (fun i k a1 a2 a3 => hs i k (by omega) a2 (by omega))
      omega
/-- one item more brings no less -/
theorem gn_more {Wl Vl : List Int} (b k : Nat) (r : Int) (hr : 0 ≤ r) (h : ∀ i, k ≤ i → i < k + (b + 1) → 0 ≤ nt Wl i ∧ 0 ≤ nt Vl i) (hs : Srt Wl Vl k (k + (b + 1))) : gn Wl Vl b (k + 1) r ≤ gn Wl Vl (b + 1) k r := by
  obtain ⟨w0, v0⟩ := h k (Nat.le_refl _) (by omega)
  have hc : ∀ i, k + 1 ≤ i → i < k + 1 + b → 0 ≤ nt Wl i ∧ 0 ≤ nt Vl i ∧ nt Vl i * nt Wl k ≤ nt Vl k * nt Wl i := fun i a1 a2 => ⟨(h i (by omega) (by omega)).1, (h i (by omega) (by omega)).2, hs k i (Nat.le_refl _) (by omega) (by omega)⟩
  by_cases hlt : r < nt Wl k
  · rw [gn_part hlt]
    have hp : 0 < nt Wl k := by omega
    have c := gn_cap v0 w0 b (k + 1) r hr hc
    exact part_le v0 hr hp (by rw [Int.mul_comm]; exact c)
  · rw [gn_step hlt]
    exact gn_room v0 w0 b (k + 1) r (by omega) hc (fun i j a1 a2 a3 => hs i j (by omega) a2 (by omega))
/-- the values from k on -/
def rst (Vl : List Int) : Nat → Nat → Int
  | 0, _ => 0
  | b + 1, k => nt Vl k + rst Vl b (k + 1)
/-- the least cost of all choices: b items from k on, a room, and what is left out already -/
def bst (Wl Vl : List Int) : Nat → Nat → Int → Int → Int
  | 0, _, _, o => o
  | b + 1, k, r, o => if nt Wl k ≤ r then min (bst Wl Vl b (k + 1) (r - nt Wl k) o) (bst Wl Vl b (k + 1) r (o + nt Vl k)) else bst Wl Vl b (k + 1) r (o + nt Vl k)
/-- P11.2 in numbers: no choice costs less than the bound -/
theorem bst_ge {Wl Vl : List Int} : ∀ b k r o, 0 ≤ r → (∀ i, k ≤ i → i < k + b → 0 ≤ nt Wl i ∧ 0 ≤ nt Vl i) → Srt Wl Vl k (k + b) → o + rst Vl b k - gn Wl Vl b k r ≤ bst Wl Vl b k r o
  | 0, k, r, o, _, _, _ => by
    show o + 0 - gn Wl Vl 0 k r ≤ o
    rw [gn_zero]; omega
  | b + 1, k, r, o, hr, h, hs => by
    have m := gn_more b k r hr h hs
    have hs2 : Srt Wl Vl (k + 1) (k + 1 + b) := fun i j a1 a2 a3 => hs i j (by omega) a2 (by omega)
    have h2 : ∀ i, k + 1 ≤ i → i < k + 1 + b → 0 ≤ nt Wl i ∧ 0 ≤ nt Vl i := fun i a1 a2 => h i (by omega) (by omega)
    have i2 := bst_ge b (k + 1) r (o + nt Vl k) hr h2 hs2
    have e : rst Vl (b + 1) k = nt Vl k + rst Vl b (k + 1) := rfl
    show o + rst Vl (b + 1) k - gn Wl Vl (b + 1) k r ≤ (if nt Wl k ≤ r then min (bst Wl Vl b (k + 1) (r - nt Wl k) o) (bst Wl Vl b (k + 1) r (o + nt Vl k)) else bst Wl Vl b (k + 1) r (o + nt Vl k))
    rw [e]
    split
    · next hle =>
      have i1 := bst_ge b (k + 1) (r - nt Wl k) o (by omega) h2 hs2
      have gs := gn_step (Wl := Wl) (Vl := Vl) (b := b) (k := k) (room := r) (by omega)
      omega
    · omega
/-- the order of the kernel's items -/
theorem srt_of {wl vl T : List Int} (h : Ordd wl vl T) (io : ∀ j, j < wl.length → 0 ≤ nt wl j ∧ 0 ≤ nt vl j) : Srt (pick wl T) (pick vl T) 0 wl.length := fun i k _ hik hk => by
  obtain ⟨hl, _⟩ := h.rng
  rw [nt_pick _ _ _ (by omega), nt_pick _ _ _ (by omega), nt_pick _ _ _ (by omega), nt_pick _ _ _ (by omega)]
  obtain ⟨a, ha, ra, ea⟩ := h.on i (by omega)
  obtain ⟨b, hb, rb, eb⟩ := h.on k hk
  rw [nt_od] at ea eb
  rw [ea, eb, Int.toNat_natCast, Int.toNat_natCast]
  have lt := (od.rko_iff (od.ltR_ord wl.length vl wl (fun j hj => by rw [nt_od]; exact (io j hj).1)) ha hb).1 (by omega)
  have ia := io a ha
  have ib := io b hb
  by_cases z : od.nth wl a = 0 ∨ od.nth wl b = 0
  · have := ((od.ltR_zero z).1 lt).1
    rw [nt_od] at this
    rw [this]
    have := Int.mul_nonneg ia.2 ib.1
    simpa using this
  · have := (od.ltR_pos z).1 lt
    simp only [nt_od] at this
    rcases this with q | q
    · exact Int.le_of_lt q
    · exact Int.le_of_eq q.1.symm
end Go.Proofs.Yteoionlnnjcggaa.kn

/-
  knap: a beginning with one number more; the bound and the best choice of a beginning.
-/
import Derived.Test.YteoionlnnjcggaaKs
namespace Go.Proofs.Yteoionlnnjcggaa.kn
set_option linter.unusedVariables false
theorem nt_app (pl : List Int) (x : Int) (j : Nat) : nt (pl ++ [x]) j = if j < pl.length then nt pl j else if j = pl.length then x else 0 := by
  unfold nt
  by_cases h : j < pl.length
  · rw [if_pos h, List.getElem?_append_left h]
  · rw [if_neg h, List.getElem?_append_right (by omega)]
    by_cases e : j = pl.length
    · subst e; simp
    · rw [if_neg e, List.getElem?_eq_none (by simp; omega)]; rfl
theorem rm_app (C : Int) (W pl : List Int) (x : Int) : ∀ k, k ≤ pl.length → rm C W (pl ++ [x]) k = rm C W pl k
  | 0, _ => rfl
  | k + 1, hk => by
    show rm C W (pl ++ [x]) k - (if nt (pl ++ [x]) k = 0 then 0 else nt W k) = rm C W pl k - (if nt pl k = 0 then 0 else nt W k)
    rw [rm_app C W pl x k (by omega), nt_app, if_pos (show k < pl.length by omega)]
theorem rm_next (C : Int) (W pl : List Int) (x : Int) : rm C W (pl ++ [x]) (pl.length + 1) = rm C W pl pl.length - (if x = 0 then 0 else nt W pl.length) := by
  show rm C W (pl ++ [x]) pl.length - (if nt (pl ++ [x]) pl.length = 0 then 0 else nt W pl.length) = _
  rw [rm_app C W pl x _ (Nat.le_refl _), nt_app, if_neg (show ¬ pl.length < pl.length by omega), if_pos rfl]
theorem lost_app (V pl : List Int) (x : Int) : ∀ k, k ≤ pl.length → lost V (pl ++ [x]) k = lost V pl k
  | 0, _ => rfl
  | k + 1, hk => by
    show lost V (pl ++ [x]) k + (if (pl ++ [x]).length ≤ k ∨ nt (pl ++ [x]) k = 0 then nt V k else 0) = lost V pl k + (if pl.length ≤ k ∨ nt pl k = 0 then nt V k else 0)
    rw [lost_app V pl x k (by omega), nt_app, if_pos (show k < pl.length by omega)]
    simp only [show ¬ (pl ++ [x]).length ≤ k from by simp; omega, show ¬ pl.length ≤ k from by omega]
theorem lost_next (V pl : List Int) (x : Int) : lost V (pl ++ [x]) (pl.length + 1) = lost V pl pl.length + (if x = 0 then nt V pl.length else 0) := by
  show lost V (pl ++ [x]) pl.length + (if (pl ++ [x]).length ≤ pl.length ∨ nt (pl ++ [x]) pl.length = 0 then nt V pl.length else 0) = _
  rw [lost_app V pl x _ (Nat.le_refl _), nt_app, if_neg (show ¬ pl.length < pl.length by omega), if_pos rfl]
  simp only [show ¬ (pl ++ [x]).length ≤ pl.length from by simp, false_or]
theorem left_app {C : Int} {W pl : List Int} {x : Int} (h : LeftOk C W pl) (hl : pl.length < W.length) (hx : x = 0 ∨ (x = 1 ∧ nt W pl.length ≤ rm C W pl pl.length)) : LeftOk C W (pl ++ [x]) := by
  refine ⟨by simp; omega, fun j hj => ?_, ?_⟩
  · rw [nt_app]
    simp at hj
    by_cases e : j < pl.length
    · rw [if_pos e]; exact h.bit j e
    · rw [if_neg e, if_pos (by omega)]; omega
  · rw [List.length_append, List.length_singleton, rm_next]
    have := h.room
    split <;> omega
theorem rst_end (V : List Int) : ∀ b k, rst V (b + 1) k = rst V b k + nt V (k + b)
  | 0, k => by show nt V k + 0 = 0 + nt V (k + 0); rw [Nat.add_zero]; omega
  | b + 1, k => by
    have ih := rst_end V b (k + 1)
    show nt V k + rst V (b + 1) (k + 1) = nt V k + rst V b (k + 1) + nt V (k + (b + 1))
    rw [ih, show k + 1 + b = k + (b + 1) from by omega]
    omega
theorem lost_rst (V pl : List Int) : ∀ b, lost V pl (pl.length + b) = lost V pl pl.length + rst V b pl.length
  | 0 => by show lost V pl pl.length = _ + 0; omega
  | b + 1 => by
    show lost V pl (pl.length + b) + (if pl.length ≤ pl.length + b ∨ nt pl (pl.length + b) = 0 then nt V (pl.length + b) else 0) = _
    rw [lost_rst V pl b, if_pos (.inl (by omega)), rst_end]
    omega
theorem gn_rst {W V : List Int} : ∀ b k r, 0 ≤ r → (∀ i, k ≤ i → i < k + b → 0 ≤ nt W i ∧ 0 ≤ nt V i) → gn W V b k r ≤ rst V b k ∧ 0 ≤ rst V b k
  | 0, k, r, _, _ => by rw [gn_zero]; show (0 : Int) ≤ 0 ∧ (0 : Int) ≤ 0; omega
  | b + 1, k, r, hr, h => by
    obtain ⟨w0, v0⟩ := h k (Nat.le_refl _) (by omega)
    have e : rst V (b + 1) k = nt V k + rst V b (k + 1) := rfl
    by_cases hlt : r < nt W k
    · have ih := gn_rst b (k + 1) r hr (fun i a1 a2 => h i (by omega) (by omega))
      rw [gn_part hlt, e]
      have hp : 0 < nt W k := by omega
      have p := (part_b v0 hr hp).1
      generalize (((nt V k).toNat * r.toNat / (nt W k).toNat : Nat) : Int) = q at *
      have m := Int.mul_le_mul_of_nonneg_left (show r ≤ nt W k by omega) v0
      have := Int.le_of_mul_le_mul_left (show nt W k * q ≤ nt W k * nt V k by rw [Int.mul_comm (nt W k) (nt V k)]; omega) hp
      omega
    · have ih := gn_rst b (k + 1) (r - nt W k) (by omega) (fun i a1 a2 => h i (by omega) (by omega))
      rw [gn_step hlt, e]
      omega
/-- the bound is nought at least -/
theorem bdv_pos {C : Int} {T W V pl : List Int} (ok : KnOk C T W V) (h : LeftOk C W pl) : 0 ≤ bdv C T W V pl := by
  have le := h.le
  have lw := ok.lw
  have g := gn_rst (W := W) (V := V) (T.length - pl.length) pl.length (rm C W pl pl.length) h.room (fun i a1 a2 => ⟨(ok.w i (by omega)).1, (ok.v i (by omega)).1⟩)
  have l := lost_rst V pl (T.length - pl.length)
  rw [show pl.length + (T.length - pl.length) = T.length by omega] at l
  have p := (lost_b pl ok pl.length (by omega)).1
  unfold bdv
  omega
/-- P11.2: no answer that begins so costs less than the bound -/
theorem bdv_best {C : Int} {T W V pl : List Int} (ok : KnOk C T W V) (hs : Srt W V 0 T.length) (h : LeftOk C W pl) : bdv C T W V pl ≤ bst W V (T.length - pl.length) pl.length (rm C W pl pl.length) (lost V pl pl.length) := by
  have le := h.le
  have lw := ok.lw
  have g := bst_ge (Wl := W) (Vl := V) (T.length - pl.length) pl.length (rm C W pl pl.length) (lost V pl pl.length) h.room (fun i a1 a2 => ⟨(ok.w i (by omega)).1, (ok.v i (by omega)).1⟩) (fun i k a1 a2 a3 => hs i k (by omega) a2 (by omega))
  have l := lost_rst V pl (T.length - pl.length)
  rw [show pl.length + (T.length - pl.length) = T.length by omega] at l
  unfold bdv
  omega
/-- .. and of a whole list it is the cost -/
theorem bdv_whole {C : Int} {T W V pl : List Int} (h : pl.length = T.length) : bdv C T W V pl = lost V pl T.length ∧ bst W V (T.length - pl.length) pl.length (rm C W pl pl.length) (lost V pl pl.length) = lost V pl T.length := by
  unfold bdv
  rw [h, Nat.sub_self, gn_zero]
  exact ⟨by omega, rfl⟩
end Go.Proofs.Yteoionlnnjcggaa.kn

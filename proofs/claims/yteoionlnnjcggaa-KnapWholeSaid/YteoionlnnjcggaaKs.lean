/-
  knap: what an answer costs and weighs, told by the order of the items.
-/
import Derived.Test.YteoionlnnjcggaaSc
import Derived.Test.YteoionlnnjcggaaKm
namespace Go.Proofs.Yteoionlnnjcggaa.kn
set_option linter.unusedVariables false
/-- a sum over a list's places -/
def sm (f : Nat → Int → Int) (xs : List Int) : Nat → Int
  | 0 => 0
  | k + 1 => sm f xs k + f k (nt xs k)
theorem nt_set {xs : List Int} {t : Nat} {x : Int} (j : Nat) (ht : t < xs.length) : nt (xs.set t x) j = if j = t then x else nt xs j := by
  unfold nt
  rw [List.getElem?_set]
  by_cases e : j = t
  · subst e; simp [ht]
  · rw [if_neg (fun q => e q.symm), if_neg e]
theorem sm_out (f : Nat → Int → Int) (xs : List Int) (t : Nat) (x : Int) (ht : t < xs.length) : ∀ k, k ≤ t → sm f (xs.set t x) k = sm f xs k
  | 0, _ => rfl
  | k + 1, hk => by
    show sm f (xs.set t x) k + f k (nt (xs.set t x) k) = sm f xs k + f k (nt xs k)
    rw [sm_out f xs t x ht k (by omega), nt_set k ht, if_neg (by omega)]
theorem sm_set (f : Nat → Int → Int) (xs : List Int) (t : Nat) (x : Int) (ht : t < xs.length) : ∀ k, t < k → sm f (xs.set t x) k = sm f xs k - f t (nt xs t) + f t x
  | 0, h => by omega
  | k + 1, h => by
    show sm f (xs.set t x) k + f k (nt (xs.set t x) k) = sm f xs k + f k (nt xs k) - f t (nt xs t) + f t x
    by_cases e : k = t
    · subst e
      rw [sm_out f xs k x ht k (Nat.le_refl _), nt_set k ht, if_pos rfl]
      omega
    · rw [sm_set f xs t x ht k (by omega), nt_set k ht, if_neg e]
      omega
/-- what the places of the order add -/
def so (f : Nat → Int → Int) (T pl : List Int) : Nat → Int
  | 0 => 0
  | k + 1 => so f T pl k + (f (nt T k).toNat (nt pl k) - f (nt T k).toNat 0)
structure Prm (T : List Int) : Prop where
  rng : ∀ j, j < T.length → 0 ≤ nt T j ∧ nt T j < T.length
  inj : ∀ i j, i < T.length → j < T.length → nt T i = nt T j → i = j
  sur : ∀ a, a < T.length → ∃ j, j < T.length ∧ nt T j = (a : Int)
theorem prm_of {wl vl T : List Int} (h : Ordd wl vl T) (hw : ∀ j, j < wl.length → 0 ≤ nt wl j) : Prm T := by
  obtain ⟨hl, hr⟩ := h.rng
  have lo := od.ltR_ord wl.length vl wl (fun j hj => by rw [nt_od]; exact hw j hj)
  refine ⟨fun j hj => by rw [hl]; exact hr j (by omega), fun i j hi hj e => ?_, fun a ha => ?_⟩
  · obtain ⟨a, ha, ra, ea⟩ := h.on i (by omega)
    obtain ⟨b, hb, rb, eb⟩ := h.on j (by omega)
    rw [nt_od] at ea eb
    rw [ea, eb] at e
    have : a = b := by omega
    subst this
    omega
  · refine ⟨od.rko (od.ltR vl wl) wl.length a, by rw [hl]; exact od.rko_in lo (by omega), ?_⟩
    have := h.is_.2 a (by omega)
    rw [nt_od] at this
    exact this
/-- a place that isn't told yet is nought; one that is told bears what the list says -/
theorem ansl_at {T pl : List Int} (h : Prm T) : ∀ k, k ≤ T.length → (∀ j, k ≤ j → j < T.length → nt (ansl T pl k) (nt T j).toNat = 0) ∧ (∀ j, j < k → nt (ansl T pl k) (nt T j).toNat = nt pl j)
  | 0, _ => by
    refine ⟨fun j _ hj => ?_, fun j hj => by omega⟩
    show nt (List.replicate T.length 0) _ = 0
    unfold nt
    rw [List.getElem?_replicate]
    split <;> rfl
  | k + 1, hk => by
    have ih := ansl_at (pl := pl) h k (by omega)
    have rk := h.rng k (by omega)
    have ht : (nt T k).toNat < (ansl T pl k).length := by rw [ansl_len]; omega
    refine ⟨fun j hj hj2 => ?_, fun j hj => ?_⟩
    · show nt ((ansl T pl k).set (nt T k).toNat (nt pl k)) _ = 0
      have rj := h.rng j hj2
      rw [nt_set _ ht, if_neg (fun q => by have := h.inj j k hj2 (by omega) (by omega); omega)]
      exact ih.1 j (by omega) hj2
    · show nt ((ansl T pl k).set (nt T k).toNat (nt pl k)) _ = _
      rw [nt_set _ ht]
      have rj := h.rng j (by omega)
      by_cases e : j = k
      · subst e; rw [if_pos rfl]
      · rw [if_neg (fun q => e (h.inj j k (by omega) (by omega) (by omega)))]
        exact ih.2 j (by omega)
theorem ansl_all {T pl : List Int} (h : Prm T) (a : Nat) (ha : a < T.length) : ∃ j, j < T.length ∧ nt T j = (a : Int) ∧ nt (ansl T pl T.length) a = nt pl j := by
  obtain ⟨j, hj, e⟩ := h.sur a ha
  have := (ansl_at (pl := pl) h T.length (Nat.le_refl _)).2 j hj
  rw [e, Int.toNat_natCast] at this
  exact ⟨j, hj, e, this⟩
theorem sm_ansl (f : Nat → Int → Int) {T pl : List Int} (h : Prm T) : ∀ k, k ≤ T.length → sm f (ansl T pl k) T.length = sm f (List.replicate T.length 0) T.length + so f T pl k
  | 0, _ => by show sm f (List.replicate T.length 0) T.length = _ + 0; omega
  | k + 1, hk => by
    have ih := sm_ansl f (pl := pl) h k (by omega)
    have rk := h.rng k (by omega)
    show sm f ((ansl T pl k).set (nt T k).toNat (nt pl k)) T.length = _ + (so f T pl k + _)
    rw [sm_set f _ _ _ (by rw [ansl_len]; omega) _ (by omega), (ansl_at (pl := pl) h k (by omega)).1 k (Nat.le_refl _) (by omega), ih]
    omega
theorem cs_sm (vl xs : List Int) : ∀ k, cs vl xs k = sm (fun j x => if x = 0 then nt vl j else 0) xs k
  | 0 => rfl
  | k + 1 => by show cs vl xs k + _ = sm _ xs k + _; rw [cs_sm vl xs k]
theorem ws_sm (wl xs : List Int) : ∀ k, ws wl xs k = sm (fun j x => if x = 0 then 0 else nt wl j) xs k
  | 0 => rfl
  | k + 1 => by show ws wl xs k + _ = sm _ xs k + _; rw [ws_sm wl xs k]
theorem sm_zero (f : Nat → Int → Int) (xs : List Int) (n : Nat) (h : ∀ j, j < n → f j (nt xs j) = 0) : ∀ k, k ≤ n → sm f xs k = 0
  | 0, _ => rfl
  | k + 1, hk => by show sm f xs k + f k (nt xs k) = 0; rw [sm_zero f xs n h k (by omega), h k (by omega)]; rfl
theorem so_ws (wl T pl : List Int) (C : Int) : ∀ k, k ≤ T.length → so (fun j x => if x = 0 then 0 else nt wl j) T pl k = C - rm C (pick wl T) pl k
  | 0, _ => by show (0 : Int) = C - C; omega
  | k + 1, hk => by
    have ih := so_ws wl T pl C k (by omega)
    show so _ T pl k + ((if nt pl k = 0 then 0 else nt wl (nt T k).toNat) - (if (0 : Int) = 0 then 0 else nt wl (nt T k).toNat)) = C - (rm C (pick wl T) pl k - (if nt pl k = 0 then 0 else nt (pick wl T) k))
    rw [ih, nt_pick _ _ _ (by omega), if_pos (rfl : (0 : Int) = 0)]
    omega
theorem so_cs (vl T pl : List Int) (hp : pl.length = T.length) : ∀ k, k ≤ T.length → so (fun j x => if x = 0 then nt vl j else 0) T pl k = lost (pick vl T) pl k - rst (pick vl T) k 0
  | 0, _ => rfl
  | k + 1, hk => by
    have ih := so_cs vl T pl hp k (by omega)
    have e : rst (pick vl T) (k + 1) 0 = rst (pick vl T) k 0 + nt (pick vl T) k := (rst_last _ _ _).trans (by rw [Nat.zero_add])
    show so _ T pl k + ((if nt pl k = 0 then nt vl (nt T k).toNat else 0) - (if (0 : Int) = 0 then nt vl (nt T k).toNat else 0)) = lost (pick vl T) pl k + (if pl.length ≤ k ∨ nt pl k = 0 then nt (pick vl T) k else 0) - _
    rw [ih, e, nt_pick _ _ _ (by omega), if_pos (rfl : (0 : Int) = 0)]
    simp only [show ¬ pl.length ≤ k from by omega, false_or]
    omega
where
  rst_last (V : List Int) : ∀ b k, rst V (b + 1) k = rst V b k + nt V (k + b)
    | 0, k => by show nt V k + 0 = 0 + nt V (k + 0); rw [Nat.add_zero]; omega
    | b + 1, k => by
      have ih := rst_last V b (k + 1)
      show nt V k + rst V (b + 1) (k + 1) = nt V k + rst V b (k + 1) + nt V (k + (b + 1))
      rw [ih, show k + 1 + b = k + (b + 1) from by omega]
      omega
/-- what the answer of a whole list weighs -/
theorem ws_ansl {wl T pl : List Int} (C : Int) (h : Prm T) : ws wl (ansl T pl T.length) T.length = C - rm C (pick wl T) pl T.length := by
  rw [ws_sm, sm_ansl _ h _ (Nat.le_refl _), so_ws wl T pl C _ (Nat.le_refl _), sm_zero _ _ T.length (fun j hj => ?_) _ (Nat.le_refl _)]
  · omega
  · unfold nt
    rw [List.getElem?_replicate, if_pos hj]
    rfl
/-- what the answer of a whole list costs -/
theorem cs_ansl {vl T pl : List Int} (h : Prm T) (hp : pl.length = T.length) : cs vl (ansl T pl T.length) T.length = lost (pick vl T) pl T.length := by
  have a := sm_ansl (fun j x => if x = 0 then nt vl j else 0) (pl := pl) h T.length (Nat.le_refl _)
  have b := sm_ansl (fun j x => if x = 0 then nt vl j else 0) (pl := List.replicate T.length 1) h T.length (Nat.le_refl _)
  rw [so_cs vl T pl hp _ (Nat.le_refl _)] at a
  rw [so_cs vl T (List.replicate T.length 1) (by simp) _ (Nat.le_refl _)] at b
  have z : sm (fun j x => if x = 0 then nt vl j else 0) (ansl T (List.replicate T.length 1) T.length) T.length = 0 := sm_zero _ _ T.length (fun j hj => by
    obtain ⟨i, hi, _, e⟩ := ansl_all (pl := List.replicate T.length 1) h j hj
    rw [e]
    unfold nt
    rw [List.getElem?_replicate, if_pos hi]
    rfl) _ (Nat.le_refl _)
  have l0 : ∀ k, k ≤ T.length → lost (pick vl T) (List.replicate T.length 1) k = 0 := fun k => by
    induction k with
    | zero => intro _; rfl
    | succ k ih =>
      intro hk
      show lost _ _ k + (if (List.replicate T.length (1 : Int)).length ≤ k ∨ nt (List.replicate T.length 1) k = 0 then nt (pick vl T) k else 0) = 0
      have e : nt (List.replicate T.length 1) k = 1 := by unfold nt; rw [List.getElem?_replicate, if_pos (by omega)]; rfl
      rw [ih (by omega), e, if_neg (by simp; omega)]
      rfl
  rw [z, l0 _ (Nat.le_refl _)] at b
  rw [cs_sm, a]
  omega
end Go.Proofs.Yteoionlnnjcggaa.kn

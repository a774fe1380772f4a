/-
  A rising list in the order of its keys: plain mathematics.
-/
import Derived.Test.YtlhpiikpmmlpeaaDoorOdKeyA
namespace Go.Proofs.YtlhpiikpmmlpeaaDoor
set_option linter.unusedVariables false
open od (nth rko cb LtO Sm Up IsRk OnRk)
theorem nth_far (l : List Int) (j : Nat) (h : l.length ≤ j) : nth l j = 0 := by unfold od.nth; rw [List.getElem?_eq_none h]; rfl
/-- which place of l stands ahead, by the numbers of row -/
def ltL (row l : List Int) (b a : Nat) : Bool := decide (nth row (nth l b).toNat < nth row (nth l a).toNat) || (decide (nth row (nth l b).toNat = nth row (nth l a).toNat) && decide (b < a))
theorem ltL_iff (row l : List Int) (b a : Nat) : ltL row l b a = true ↔ nth row (nth l b).toNat < nth row (nth l a).toNat ∨ (nth row (nth l b).toNat = nth row (nth l a).toNat ∧ b < a) := by unfold ltL; simp
theorem ltL_ord (m : Nat) (row l : List Int) : LtO m (ltL row l) :=
  ⟨fun a _ h => by rw [ltL_iff] at h; omega, fun a b c _ _ _ h k => by rw [ltL_iff] at *; omega, fun a b _ _ h => by rw [ltL_iff, ltL_iff]; omega⟩
/-- T: the numbers of l by their ranks -/
structure KidT (row l T : List Int) : Prop where
  len : T.length = l.length
  rk : ∀ a, a < l.length → nth T (rko (ltL row l) l.length a) = nth l a
theorem rko_onto {m : Nat} {lt : Nat → Nat → Bool} (h : LtO m lt) : ∀ x, x < m → ∃ a, a < m ∧ rko lt m a = x := by
  intro x hx
  have inj : ((List.range m).map (fun a => ((rko lt m a : Nat) : Int))).Nodup := by
    rw [List.nodup_iff_pairwise_ne, List.pairwise_map]
    refine List.Pairwise.imp_of_mem ?_ (List.nodup_iff_pairwise_ne.1 List.nodup_range)
    intro a b ha hb hab q
    have := od.rko_ne h (List.mem_range.1 ha) (List.mem_range.1 hb) hab
    omega
  have := od.nodup_all m _ inj (fun v hv => by
    obtain ⟨a, ha, rfl⟩ := List.mem_map.1 hv
    have := od.rko_in h (List.mem_range.1 ha)
    omega) (by simp) x hx
  obtain ⟨a, ha, e⟩ := List.mem_map.1 this
  exact ⟨a, List.mem_range.1 ha, by omega⟩
theorem nth_ext2 {T Z : List Int} (h : T.length = Z.length) (e : ∀ x, x < T.length → nth T x = nth Z x) : T = Z :=
  List.ext_getElem h (fun x h1 h2 => by have := e x h1; rw [od.nth_at T x h1, od.nth_at Z x h2] at this; exact this)
theorem KidT.one {row l T Z : List Int} (h : KidT row l T) (k : KidT row l Z) : T = Z :=
  nth_ext2 (by rw [h.len, k.len]) (fun x hx => by
    obtain ⟨a, ha, rfl⟩ := rko_onto (ltL_ord l.length row l) x (by rw [← h.len]; exact hx)
    rw [h.rk a ha, k.rk a ha])
/-- what a stable sort makes of a rising list -/
theorem kidT_of {n : Nat} {row l T : List Int} (hl : ∀ j, j < l.length → 0 ≤ nth l j ∧ nth l j < n) (hr : ∀ x y, x < y → y < l.length → nth l x < nth l y) (hT : T.length = l.length)
    (hs : Sm T l 0 l.length) (hu : Up (fun z => ((rko (od.ltK row) n z.toNat : Nat) : Int)) T 0 l.length) : KidT row l T := by
  obtain ⟨m, hm⟩ : ∃ m, m = l.length := ⟨_, rfl⟩
  rw [← hm] at hl hr hT hs hu
  obtain ⟨s1, s2, s3⟩ := hs
  have hq : ∀ x, ∃ y, x < m → y < m ∧ nth T x = nth l y := fun x => by
    by_cases hx : x < m
    · obtain ⟨y, _, h2, h3⟩ := s2 x (Nat.zero_le _) hx
      exact ⟨y, fun _ => ⟨h2, h3⟩⟩
    · exact ⟨0, fun h => absurd h hx⟩
  obtain ⟨q, hq⟩ : ∃ q : Nat → Nat, ∀ x, x < m → q x < m ∧ nth T x = nth l (q x) := ⟨fun x => Classical.choose (hq x), fun x hx => Classical.choose_spec (hq x) hx⟩
  have inj : ∀ x y, x < m → y < m → nth l x = nth l y → x = y := fun x y hx hy e => by
    rcases Nat.lt_trichotomy x y with h | h | h
    · have := hr x y h hy; omega
    · exact h
    · have := hr y x h hx; omega
  have tn : ∀ x, nth ((List.range m).map (fun x => ((q x : Nat) : Int))) x = if x < m then (q x : Int) else 0 := fun x => by
    by_cases hx : x < m
    · rw [if_pos hx, od.nth_at _ x (by simp; exact hx)]; simp
    · rw [if_neg hx, nth_far _ x (by simp; omega)]
  have key := od.rk_of_up (ltL_ord m row l) (T := (List.range m).map (fun x => ((q x : Nat) : Int))) (l := od.upTo m) (by simp) (od.upTo_len m) (od.upTo_nth m) (by
    refine ⟨fun x hx => ?_, fun x _ hx => ⟨q x, Nat.zero_le _, (hq x hx).1, ?_⟩, fun y _ hy => ?_⟩
    · rw [tn x, if_neg (by omega), nth_far _ x (by rw [od.upTo_len]; omega)]
    · rw [tn x, if_pos hx, od.upTo_nth m _ (hq x hx).1]
    · obtain ⟨x, _, hx, e⟩ := s3 y (Nat.zero_le _) hy
      refine ⟨x, Nat.zero_le _, hx, ?_⟩
      rw [tn x, if_pos hx, od.upTo_nth m y hy]
      have := inj _ _ (hq x hx).1 hy ((hq x hx).2.symm.trans e)
      omega) (by
    intro x y _ hxy hy
    have hx : x < m := by omega
    have u := hu x y (Nat.zero_le _) hxy hy
    rw [(hq x hx).2, (hq y hy).2] at u
    dsimp only at u
    have r1 := hl _ (hq x hx).1
    have r2 := hl _ (hq y hy).1
    have lt := (od.rko_iff (od.ltK_ord n row) (a := (nth l (q x)).toNat) (b := (nth l (q y)).toNat) (by omega) (by omega)).1 (by omega)
    rw [od.ltK_iff] at lt
    show ((rko (ltL row l) m _ : Nat) : Int) < ((rko (ltL row l) m _ : Nat) : Int)
    rw [tn x, tn y, if_pos hx, if_pos hy, Int.toNat_natCast, Int.toNat_natCast]
    have l2 : ltL row l (q x) (q y) = true := by
      rw [ltL_iff]
      rcases lt with h | ⟨h, k⟩
      · exact .inl h
      · refine .inr ⟨h, ?_⟩
        rcases Nat.lt_trichotomy (q x) (q y) with c | c | c
        · exact c
        · rw [c] at k; omega
        · have := hr _ _ c (hq x hx).1; omega
    have := od.rko_lt (ltL_ord m row l) (hq x hx).1 (hq y hy).1 l2
    omega)
  refine ⟨by rw [← hm]; exact hT, fun a ha => ?_⟩
  rw [← hm] at ha ⊢
  have k1 := key.1.2 a ha
  have ri := od.rko_in (ltL_ord m row l) ha
  rw [tn _, if_pos ri] at k1
  rw [(hq _ ri).2]
  congr 1
  omega
end Go.Proofs.YtlhpiikpmmlpeaaDoor

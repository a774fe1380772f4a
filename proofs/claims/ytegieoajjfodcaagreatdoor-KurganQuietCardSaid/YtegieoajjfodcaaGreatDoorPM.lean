/-
  What a row of tokens tells, step by step; the reader as a place in that row and a fault.
-/
import Derived.Test.YtegieoajjfodcaaGreatDoorRd5
namespace Go.Proofs.YtegieoajjfodcaaGreatDoor
open Go.RowKit
set_option linter.unusedVariables false
def noTok : Tok := ⟨3, noText, 0, 0⟩
def tk (T : List Tok) (p : Nat) : Tok := (T[p]?).getD noTok
/-- where the reader is, and what is wrong there -/
structure St where
  p : Nat
  f : Int
def adv (s : St) (e : Int) : St := if s.f = 0 then (if e = 0 then ⟨s.p + 1, 0⟩ else ⟨s.p, e⟩) else s
theorem adv_bad {s : St} (h : s.f ≠ 0) (e : Int) : adv s e = s := by unfold adv; rw [if_neg h]
theorem adv_ok {s : St} (h : s.f = 0) : adv s 0 = ⟨s.p + 1, 0⟩ := by unfold adv; rw [if_pos h, if_pos rfl]
theorem adv_err {s : St} (h : s.f = 0) {e : Int} (he : e ≠ 0) : adv s e = ⟨s.p, e⟩ := by unfold adv; rw [if_pos h, if_neg he]
/-- so many steps, of which the k-th finds E k wrong with its token -/
def steps (E : Nat → Tok → Int) (T : List Tok) (s : St) : Nat → St
  | 0 => s
  | k + 1 => adv (steps E T s k) (E k (tk T (steps E T s k).p))
theorem steps_succ (E : Nat → Tok → Int) (T : List Tok) (s : St) (k : Nat) : steps E T s (k + 1) = adv (steps E T s k) (E k (tk T (steps E T s k).p)) := rfl
theorem steps_bad (E : Nat → Tok → Int) (T : List Tok) {s : St} (h : s.f ≠ 0) : ∀ k, steps E T s k = s
  | 0 => rfl
  | k + 1 => by rw [steps_succ, steps_bad E T h k, adv_bad h]
theorem steps_ok (E : Nat → Tok → Int) (T : List Tok) (p : Nat) : ∀ k, (∀ j, j < k → E j (tk T (p + j)) = 0) → steps E T ⟨p, 0⟩ k = ⟨p + k, 0⟩
  | 0, _ => rfl
  | k + 1, h => by
    rw [steps_succ, steps_ok E T p k (fun j hj => h j (by omega))]
    show adv ⟨p + k, 0⟩ (E k (tk T (p + k))) = _
    rw [h k (by omega)]
    exact adv_ok rfl
theorem steps_more (E : Nat → Tok → Int) (T : List Tok) (s : St) (a : Nat) (h : (steps E T s a).f ≠ 0) : ∀ k, steps E T s (a + k) = steps E T s a
  | 0 => rfl
  | k + 1 => by
    show adv (steps E T s (a + k)) _ = _
    rw [steps_more E T s a h k, adv_bad h]
theorem steps_err (E : Nat → Tok → Int) (T : List Tok) (p a k : Nat) (h : ∀ j, j < a → E j (tk T (p + j)) = 0) (he : E a (tk T (p + a)) ≠ 0) (hk : a < k) : steps E T ⟨p, 0⟩ k = ⟨p + a, E a (tk T (p + a))⟩ := by
  have h1 : steps E T ⟨p, 0⟩ (a + 1) = ⟨p + a, E a (tk T (p + a))⟩ := by
    rw [steps_succ, steps_ok E T p a h]
    show adv ⟨p + a, 0⟩ (E a (tk T (p + a))) = _
    exact adv_err rfl he
  obtain ⟨m, rfl⟩ : ∃ m, k = a + 1 + m := ⟨k - a - 1, by omega⟩
  rw [steps_more E T ⟨p, 0⟩ (a + 1) (by rw [h1]; exact he) m, h1]
/-- what the k-th step's token has for a number -/
def vn (E : Nat → Tok → Int) (T : List Tok) (s : St) (k : Nat) : Int := (tk T (steps E T s k).p).num
theorem vn_ok (E : Nat → Tok → Int) (T : List Tok) (p k : Nat) (h : ∀ j, j < k → E j (tk T (p + j)) = 0) : vn E T ⟨p, 0⟩ k = (tk T (p + k)).num := by
  unfold vn; rw [steps_ok E T p k h]
/-- tokens as a scan leaves them: the last one is the End -/
structure Toks (T : List Tok) : Prop where
  last : ∃ m z, T = m ++ [⟨3, noText, 0, z⟩] ∧ (∀ t ∈ m, t.kind = 1 ∨ (t.kind = 2 ∧ t.text = noText)) ∧ ∀ t ∈ m, 0 ≤ t.num
  len : T.length ≤ 65537
theorem Toks.pos {T : List Tok} (h : Toks T) : 0 < T.length := by
  obtain ⟨m, z, rfl, _⟩ := h.last
  simp
theorem Toks.more {T : List Tok} (h : Toks T) {p : Nat} (hp : p < T.length) (hk : (tk T p).kind ≠ 3) : p + 1 < T.length := by
  obtain ⟨m, z, rfl, _⟩ := h.last
  rcases Nat.lt_or_ge (p + 1) (m ++ [(⟨3, noText, 0, z⟩ : Tok)]).length with q | q
  · exact q
  · exfalso; apply hk
    simp at q hp
    obtain rfl : p = m.length := by omega
    simp [tk]
theorem Toks.kinds {T : List Tok} (h : Toks T) (p : Nat) : (tk T p).kind = 1 ∨ ((tk T p).kind = 2 ∧ (tk T p).text = noText) ∨ ((tk T p).kind = 3 ∧ (tk T p).text = noText) := by
  obtain ⟨m, z, rfl, hm, _⟩ := h.last
  unfold tk
  rcases Nat.lt_trichotomy p m.length with q | q | q
  · rw [List.getElem?_append_left q, List.getElem?_eq_getElem q]
    rcases hm _ (List.getElem_mem q) with r | r
    · exact .inl r
    · exact .inr (.inl r)
  · subst q; right; right; simp
  · right; right
    rw [List.getElem?_eq_none (by simp; omega)]
    exact ⟨rfl, rfl⟩
theorem Toks.num {T : List Tok} (h : Toks T) (p : Nat) : 0 ≤ (tk T p).num := by
  obtain ⟨m, z, rfl, _, hm⟩ := h.last
  unfold tk
  rcases Nat.lt_trichotomy p m.length with q | q | q
  · rw [List.getElem?_append_left q, List.getElem?_eq_getElem q]
    exact hm _ (List.getElem_mem q)
  · subst q; simp
  · rw [List.getElem?_eq_none (by simp; omega)]
    exact Int.le_refl 0
theorem ndf_dig (t : ByteArray) : ∀ b k j, k ≤ j → j < ndf t b k → isd t j
  | 0, k, j, h1, h2 => by simp only [ndf] at h2; omega
  | b + 1, k, j, h1, h2 => by
    by_cases q : isd t k
    · rw [ndf_step t b k q] at h2
      by_cases e : j = k
      · rw [e]; exact q
      · exact ndf_dig t b (k + 1) j (by omega) h2
    · rw [ndf_end t (b + 1) k q] at h2; omega
theorem rdv_num (t : ByteArray) (a : Int) (h : (rdv t a).2.2 = 0) : 0 ≤ (rdv t a).1 := by
  unfold rdv at h ⊢
  split
  · exact Int.le_refl 0
  · split
    · exact Int.le_refl 0
    · exact (dv_b t (nd t) (fun j hj => ndf_dig t _ 0 j (by omega) hj)).1
theorem sp_toks (s : ByteArray) : ∀ b p l l', sp s b p l = .ok l' → (∀ t ∈ l, (t.kind = 1 ∨ (t.kind = 2 ∧ t.text = noText)) ∧ 0 ≤ t.num) → l.length ≤ p → p ≤ s.size → ∃ m, l' = m ++ [⟨3, noText, 0, s.size⟩] ∧ (∀ t ∈ m, (t.kind = 1 ∨ (t.kind = 2 ∧ t.text = noText)) ∧ 0 ≤ t.num) ∧ m.length ≤ s.size
  | 0, p, l, l', h, hl, hp, hs => by
    injection h with h
    exact ⟨l, h.symm, hl, by omega⟩
  | b + 1, p, l, l', h, hl, hp, hs => by
    simp only [sp] at h
    split at h
    · injection h with h
      exact ⟨l, h.symm, hl, by omega⟩
    · rename_i hlt
      have g2 := run_ge 2 s (p + 1)
      have g3 := run_ge 3 s (p + 1)
      have g4 := nl_ge s (p + 1)
      have e2 := run_le 2 s (p + 1) (by omega)
      have e3 := run_le 3 s (p + 1) (by omega)
      have e4 := nl_le s (p + 1) (by omega)
      split at h
      · exact sp_toks s b _ _ _ h hl (by omega) (by omega)
      · split at h
        · exact sp_toks s b _ _ _ h hl (by omega) (by omega)
        · split at h
          · split at h
            · cases h
            · rename_i hrd
              split at h
              · cases h
              · refine sp_toks s b _ _ _ h (fun t ht => ?_) (by simp; omega) (by omega)
                rcases List.mem_append.1 ht with q | q
                · exact hl t q
                · rw [List.mem_singleton.1 q]; exact ⟨.inr ⟨rfl, rfl⟩, rdv_num _ _ (Decidable.not_not.1 hrd)⟩
          · split at h
            · split at h
              · cases h
              · split at h
                · cases h
                · refine sp_toks s b _ _ _ h (fun t ht => ?_) (by simp; omega) (by omega)
                  rcases List.mem_append.1 ht with q | q
                  · exact hl t q
                  · rw [List.mem_singleton.1 q]; exact ⟨.inl rfl, Int.le_refl 0⟩
            · cases h
theorem SP_toks {s : ByteArray} {T : List Tok} (hs : s.size ≤ 65536) (h : SP s 0 [] = .ok T) : Toks T := by
  obtain ⟨m, rfl, h1, h2⟩ := sp_toks s _ 0 [] T h (by simp) (by simp) (by omega)
  exact ⟨⟨m, s.size, rfl, fun t ht => (h1 t ht).1, fun t ht => (h1 t ht).2⟩, by simp; omega⟩
end Go.Proofs.YtegieoajjfodcaaGreatDoor

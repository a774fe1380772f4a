/-
  Orders: plain mathematics.
-/
import Derived.Test.YtaobaiifbmhegaaNtBase
namespace Go.Proofs.Ytaobaiifbmhegaa.nt
set_option linter.unusedVariables false

theorem perm_pig : ∀ (n : Nat) (l : List Int), (∀ j, j < n → (j : Int) ∈ l) → n ≤ l.length ∧ (l.length = n → (∀ j, j < n → l.count (j : Int) = 1) ∧ ∀ x ∈ l, 0 ≤ x ∧ x < n)
  | 0, l, _ => ⟨Nat.zero_le _, fun h => by
      have := List.eq_nil_of_length_eq_zero h
      subst this
      exact ⟨fun j hj => absurd hj (by omega), fun x hx => absurd hx (by simp)⟩⟩
  | n + 1, l, h => by
    have hn : (n : Int) ∈ l := h n (by omega)
    have hl := List.length_erase_of_mem hn
    have hpos : 0 < l.length := List.length_pos_of_mem hn
    obtain ⟨p1, p2⟩ := perm_pig n (l.erase (n : Int)) (fun j hj => (List.mem_erase_of_ne (by omega)).2 (h j (by omega)))
    refine ⟨by omega, fun hlen => ?_⟩
    obtain ⟨q1, q2⟩ := p2 (by omega)
    refine ⟨fun j hj => ?_, fun x hx => ?_⟩
    · by_cases e : j = n
      · subst e
        have c0 : (l.erase (j : Int)).count (j : Int) = 0 := List.count_eq_zero.2 (fun hm => by have := q2 _ hm; omega)
        have c1 := List.count_erase_self (a := (j : Int)) (l := l)
        have c2 : 0 < l.count (j : Int) := List.count_pos_iff.2 hn
        omega
      · have := q1 j (by omega)
        rwa [List.count_erase_of_ne (by omega)] at this
    · by_cases e : x = (n : Int)
      · omega
      · have := q2 x ((List.mem_erase_of_ne e).2 hx)
        omega
theorem nodup_len : ∀ (n : Nat) (l : List Int), l.Nodup → (∀ x ∈ l, 0 ≤ x ∧ x < n) → l.length ≤ n
  | 0, l, _, h => by
    cases l with
    | nil => simp
    | cons x l => have := h x (List.mem_cons_self ..); omega
  | n + 1, l, hd, h => by
    by_cases hn : (n : Int) ∈ l
    · have hl := List.length_erase_of_mem hn
      have := nodup_len n (l.erase (n : Int)) (hd.erase _) (fun x hx => by
        have h1 := h x (List.mem_of_mem_erase hx)
        have h2 : x ≠ (n : Int) := fun e => by
          subst e
          exact (List.Nodup.not_mem_erase hd) hx
        omega)
      omega
    · have := nodup_len n l hd (fun x hx => by
        have h1 := h x hx
        have h2 : x ≠ (n : Int) := fun e => hn (e ▸ hx)
        omega)
      omega
theorem nodup_all : ∀ (n : Nat) (l : List Int), l.Nodup → (∀ x ∈ l, 0 ≤ x ∧ x < n) → l.length = n → ∀ j, j < n → (j : Int) ∈ l
  | 0, l, _, _, _, j, hj => absurd hj (by omega)
  | n + 1, l, hd, h, hl, j, hj => by
    by_cases hn : (n : Int) ∈ l
    · by_cases hjn : j = n
      · subst hjn; exact hn
      · have he := List.length_erase_of_mem hn
        have := nodup_all n (l.erase (n : Int)) (hd.erase _) (fun x hx => by
          have h1 := h x (List.mem_of_mem_erase hx)
          have h2 : x ≠ (n : Int) := fun e => by
            subst e
            exact (List.Nodup.not_mem_erase hd) hx
          omega) (by omega) j (by omega)
        exact List.mem_of_mem_erase this
    · have := nodup_len n l hd (fun x hx => by
        have h1 := h x hx
        have h2 : x ≠ (n : Int) := fun e => hn (e ▸ hx)
        omega)
      omega
/-- an order -/
def isP (p : List Int) : Prop := ∀ k, k < p.length → p.count (k : Int) = 1
/-- so far an order -/
def okTo (p : List Int) (k : Nat) : Prop := (∀ j, j < k → 0 ≤ nth p j ∧ nth p j < p.length) ∧ ∀ i j, i < j → j < k → nth p i ≠ nth p j
theorem isP_mem {p : List Int} (h : isP p) : ∀ j, j < p.length → (j : Int) ∈ p := fun j hj => List.count_pos_iff.1 (by rw [h j hj]; decide)
theorem isP_ok {p : List Int} (h : isP p) : okTo p p.length := by
  have P := (perm_pig p.length p (isP_mem h)).2 rfl
  have R : ∀ j, j < p.length → 0 ≤ nth p j ∧ nth p j < p.length := fun j hj => by rw [nth_at p j hj]; exact P.2 _ (List.getElem_mem hj)
  refine ⟨R, fun i j hij hj he => ?_⟩
  have r := R i (by omega)
  obtain ⟨k, hk⟩ : ∃ k : Nat, nth p i = k := ⟨(nth p i).toNat, by omega⟩
  have c := h k (by omega)
  have hi : p[i]'(by omega) = (k : Int) := by rw [← nth_at p i (by omega)]; exact hk
  have hj' : p[j]'(by omega) = (k : Int) := by rw [← nth_at p j (by omega), ← he]; exact hk
  have e := List.take_append_drop (i + 1) p
  have c1 : 0 < (p.take (i + 1)).count (k : Int) := List.count_pos_iff.2 (by
    rw [List.mem_iff_getElem]
    exact ⟨i, by simp; omega, by rw [List.getElem_take]; exact hi⟩)
  have c2 : 0 < (p.drop (i + 1)).count (k : Int) := List.count_pos_iff.2 (by
    rw [List.mem_iff_getElem]
    exact ⟨j - (i + 1), by simp; omega, by rw [List.getElem_drop]; rw [← hj']; congr 1; omega⟩)
  rw [← e, List.count_append] at c
  omega
theorem ok_isP {p : List Int} (h : okTo p p.length) : isP p := by
  have hd : p.Nodup := by
    refine List.pairwise_iff_getElem.2 (fun i j hi hj hij => ?_)
    have := h.2 i j hij hj
    rwa [nth_at p i hi, nth_at p j hj] at this
  have hr : ∀ x ∈ p, 0 ≤ x ∧ x < p.length := fun x hx => by
    obtain ⟨j, hj, rfl⟩ := List.mem_iff_getElem.1 hx
    have := h.1 j hj
    rwa [nth_at p j hj] at this
  exact ((perm_pig p.length p (nodup_all p.length p hd hr rfl)).2 rfl).1
theorem isP_iff (p : List Int) : isP p ↔ okTo p p.length := ⟨isP_ok, ok_isP⟩
end Go.Proofs.Ytaobaiifbmhegaa.nt

/-
  An assignment's rows in another order, the answer's numbers in that order: it costs the same. Plain mathematics.
-/
import Derived.Test.YtaobaiifbmhegaaVm
namespace Go.Proofs.Ytaobaiifbmhegaa
open Go.RowKit
set_option linter.unusedVariables false
/-- what a list's numbers cost -/
def sl (f : Nat → Int) : List Int → Int
  | [] => 0
  | a :: l => f a.toNat + sl f l
theorem sl_erase (f : Nat → Int) (a : Int) : ∀ l : List Int, a ∈ l → sl f l = f a.toNat + sl f (l.erase a)
  | [], h => absurd h (by simp)
  | b :: l, h => by
    by_cases e : b = a
    · subst e
      rw [List.erase_cons_head]
      rfl
    · have hm : a ∈ l := by
        rcases List.mem_cons.1 h with q | q
        · exact absurd q.symm e
        · exact q
      rw [List.erase_cons_tail (by simpa using e)]
      show f b.toNat + sl f l = f a.toNat + (f b.toNat + sl f (l.erase a))
      rw [sl_erase f a l hm]
      omega
theorem sl_ps (f : Nat → Int) : ∀ l : List Int, ps (fun k => f (nth l k).toNat) l.length = sl f l
  | [] => by
    show ps _ 0 = 0
    rw [ps_zero]
  | a :: l => by
    show ps _ (l.length + 1) = f a.toNat + sl f l
    rw [ps_shift, ← sl_ps f l]
    have e0 : nth (a :: l) 0 = a := by rw [nth_def]; rfl
    rw [e0, ps_congr (fun k => f (nth (a :: l) (k + 1)).toNat) (fun k => f (nth l k).toNat) l.length (fun j hj => by
      have : nth (a :: l) (j + 1) = nth l j := by rw [nth_def, nth_def, List.getElem?_cons_succ]
      show f (nth (a :: l) (j + 1)).toNat = f (nth l j).toNat
      rw [this]) l.length (Nat.le_refl _)]
theorem sl_perm (f : Nat → Int) : ∀ (n : Nat) (l : List Int), permP l n → sl f l = ps f n
  | 0, l, h => by
    have := List.eq_nil_of_length_eq_zero h.1
    subst this
    rw [ps_zero]; rfl
  | n + 1, l, h => by
    have hm : ((n : Nat) : Int) ∈ l := h.2 n (by omega)
    have hl := List.length_erase_of_mem hm
    have h1 := h.1
    rw [sl_erase f _ l hm, sl_perm f n (l.erase (n : Int)) ⟨by omega, fun j hj => (List.mem_erase_of_ne (by omega)).2 (h.2 j (by omega))⟩, ps_succ]
    have e : ((n : Nat) : Int).toNat = n := by omega
    rw [e]
    omega
theorem ps_perm (f : Nat → Int) {n : Nat} {p : List Int} (h : permP p n) : ps (fun k => f (nth p k).toNat) n = ps f n := by
  have := sl_ps f p
  rw [h.1] at this
  rw [this, sl_perm f n p h]
/-- the rows of cl in the order p; the numbers of x in the order p -/
def rowsBy (cl : List (List Int)) (p : List Int) : List (List Int) := p.map fun k => cl[k.toNat]?.getD []
def numsBy (x p : List Int) : List Int := p.map fun k => nth x k.toNat
theorem rowsBy_get {cl : List (List Int)} {p : List Int} {k : Nat} (h : k < p.length) : (rowsBy cl p)[k]?.getD [] = cl[(nth p k).toNat]?.getD [] := by
  unfold rowsBy
  rw [List.getElem?_map, nth_def, List.getElem?_eq_getElem h]
  rfl
theorem numsBy_get {x p : List Int} {k : Nat} (h : k < p.length) : nth (numsBy x p) k = nth x (nth p k).toNat := by
  unfold numsBy
  rw [nth_def, List.getElem?_map, nth_def p, List.getElem?_eq_getElem h]
  rfl
theorem numsBy_perm {x p : List Int} {n : Nat} (hx : permP x n) (hp : permP p n) : permP (numsBy x p) n := by
  refine ⟨by unfold numsBy; rw [List.length_map]; exact hp.1, fun j hj => ?_⟩
  obtain ⟨m, hm, e⟩ := List.getElem_of_mem (hx.2 j hj)
  have hm' : m < n := by have := hx.1; omega
  unfold numsBy
  refine List.mem_map.2 ⟨(m : Int), hp.2 m hm', ?_⟩
  have e2 : ((m : Nat) : Int).toNat = m := by omega
  rw [e2, nth_def, List.getElem?_eq_getElem hm]
  exact e
/-- the law's heart -/
theorem rows_perm {n : Nat} {C : Int} {wl vl : List Int} {cl : List (List Int)} {x p : List Int} (hF : Fm 2 n C wl vl cl) (hx : okx 2 n x) (hp : permP p n) : costR 2 n C wl vl (rowsBy cl p) (numsBy x p) = costR 2 n C wl vl cl x := by
  obtain ⟨a1, rfl, rfl, rfl, a5, a6⟩ := hF.rs (by decide)
  have n1 := hF.n1
  have hl : x.length = n := by have := hx.1; omega
  have hpx : permP x n := by
    rcases hx.2 with h | h
    · omega
    · simpa using h.2.2
  have hr := perm_rng hp
  have hpl := hp.1
  have hF2 : Fm 2 n 0 [] [] (rowsBy cl p) := by
    refine ⟨hF.n1, hF.k, hF.cap, fun c => absurd c (by decide), fun _ => ⟨a1, rfl, rfl, rfl, by unfold rowsBy; rw [List.length_map]; exact hpl, fun a ha => ?_⟩⟩
    have r := hr a (by omega)
    rw [rowsBy_get (by omega)]
    refine ⟨(a6 _ (by omega)).1, fun b hb => ⟨((a6 (nth p a).toNat (by omega)).2 b hb).1, fun c => absurd c (by decide)⟩⟩
  have hy := numsBy_perm hpx hp
  have hx2 : okx 2 n (numsBy x p) := ⟨by have := hy.1; omega, Or.inr ⟨by decide, fun c => absurd c (by decide), by simpa using hy⟩⟩
  rw [cost_rows hF.chk hx, cost_rows hF2.chk hx2, hy.1, hl]
  congr 1
  rw [← ps_perm (rowc cl x) hp]
  refine ps_congr _ _ n (fun j hj => ?_) n (Nat.le_refl _)
  have r := hr j (by omega)
  show rowc (rowsBy cl p) (numsBy x p) j = rowc cl x (nth p j).toNat
  unfold rowc
  rw [numsBy_get (by omega)]
  unfold ent
  have e2 : ((j : Int)).toNat = j := by omega
  have e3 : (((nth p j).toNat : Nat) : Int).toNat = (nth p j).toNat := by omega
  rw [e2, e3, rowsBy_get (by omega)]
end Go.Proofs.Ytaobaiifbmhegaa

/-
  First answers: the items by value for their weight as far as there is room, or the best single one; the cheapest column of each row that is left. Plain mathematics: they are answers.
-/
import Derived.Test.YtaobaiifbmhegaaBd
import Derived.Test.YtaobaiifbmhegaaRcAll
import Derived.Test.YtaobaiifbmhegaaGm
import Derived.Test.YtaobaiifbmhegaaOdRkM
namespace Go.Proofs.Ytaobaiifbmhegaa
open Go.RowKit
set_option linter.unusedVariables false
theorem vnth_set (l : List Int) (i j : Nat) (v : Int) (hi : i < l.length) : nth (l.set i v) j = if i = j then v else nth l j := by
  rw [← od_nth, ← od_nth]; exact od.nth_set l i j v hi
theorem nth_rep (n j : Nat) : nth (List.replicate n (0 : Int)) j = 0 := by
  unfold nth
  rw [List.getElem?_replicate]
  split <;> rfl
/-! ## items -/
def pkR (C : Int) (wl vl l : List Int) : Nat → List Int × Int × Int
  | 0 => (List.replicate wl.length 0, C, 0)
  | t + 1 =>
    if nth wl (nth l t).toNat ≤ (pkR C wl vl l t).2.1 then
      ((pkR C wl vl l t).1.set (nth l t).toNat 1, (pkR C wl vl l t).2.1 - nth wl (nth l t).toNat, (pkR C wl vl l t).2.2 + nth vl (nth l t).toNat)
    else pkR C wl vl l t
theorem pk_zero (C : Int) (wl vl l : List Int) : pkR C wl vl l 0 = (List.replicate wl.length 0, C, 0) := rfl
theorem pk_yes {C : Int} {wl vl l : List Int} {t : Nat} (h : nth wl (nth l t).toNat ≤ (pkR C wl vl l t).2.1) : pkR C wl vl l (t + 1) = ((pkR C wl vl l t).1.set (nth l t).toNat 1, (pkR C wl vl l t).2.1 - nth wl (nth l t).toNat, (pkR C wl vl l t).2.2 + nth vl (nth l t).toNat) := by
  show (if _ then _ else _) = _; rw [if_pos h]
theorem pk_no {C : Int} {wl vl l : List Int} {t : Nat} (h : ¬ nth wl (nth l t).toNat ≤ (pkR C wl vl l t).2.1) : pkR C wl vl l (t + 1) = pkR C wl vl l t := by
  show (if _ then _ else _) = _; rw [if_neg h]
/-- weights and values that are in form -/
def ItF (wl vl : List Int) : Prop := wl.length ≤ 64 ∧ vl.length = wl.length ∧ ∀ j, j < wl.length → (0 ≤ nth wl j ∧ nth wl j ≤ 2147483647) ∧ (0 ≤ nth vl j ∧ nth vl j ≤ 2147483647)
/-- each of 0 to n - 1 but once -/
def OrdF (l : List Int) (n : Nat) : Prop := l.length = n ∧ (∀ j, j < n → 0 ≤ nth l j ∧ nth l j < n) ∧ ∀ i j, i < j → j < n → nth l i ≠ nth l j
theorem ps_set (wl x : List Int) (k n : Nat) (hk : k < x.length) (h0 : nth x k = 0) (hn : k < n) : ps (wgt (x.set k 1) wl) n = ps (wgt x wl) n + nth wl k := by
  have aux : ∀ m, (m ≤ k → ps (wgt (x.set k 1) wl) m = ps (wgt x wl) m) ∧ (k < m → ps (wgt (x.set k 1) wl) m = ps (wgt x wl) m + nth wl k) := by
    intro m
    induction m with
    | zero => exact ⟨fun _ => by rw [ps_zero, ps_zero], fun h => absurd h (by omega)⟩
    | succ m ih =>
      have e : wgt (x.set k 1) wl m = if k = m then nth wl k else wgt x wl m := by
        unfold wgt
        rw [vnth_set _ _ _ _ hk]
        by_cases c : k = m
        · rw [if_pos c, if_pos c, if_pos rfl, c]
        · rw [if_neg c, if_neg c]
      refine ⟨fun h => ?_, fun h => ?_⟩
      · rw [ps_succ, ps_succ, ih.1 (by omega), e, if_neg (by omega)]
      · rw [ps_succ, ps_succ, e]
        by_cases c : k = m
        · rw [if_pos c, ih.1 (by omega)]
          have : wgt x wl m = 0 := by unfold wgt; rw [← c, h0]; simp
          omega
        · rw [if_neg c, ih.2 (by omega)]; omega
  exact (aux n).2 hn
theorem ps_rep (wl : List Int) (n : Nat) : ∀ m, ps (wgt (List.replicate n 0) wl) m = 0
  | 0 => ps_zero _
  | m + 1 => by
    rw [ps_succ, ps_rep wl n m]
    unfold wgt
    rw [nth_rep]; simp
structure PkG (C : Int) (wl vl l : List Int) (t : Nat) : Prop where
  len : (pkR C wl vl l t).1.length = wl.length
  bits : ∀ j, nth (pkR C wl vl l t).1 j = 0 ∨ (nth (pkR C wl vl l t).1 j = 1 ∧ ∃ s, s < t ∧ nth l s = (j : Int))
  room : ps (wgt (pkR C wl vl l t).1 wl) wl.length + (pkR C wl vl l t).2.1 = C
  roomR : 0 ≤ (pkR C wl vl l t).2.1 ∧ (pkR C wl vl l t).2.1 ≤ C
  worth : 0 ≤ (pkR C wl vl l t).2.2 ∧ (pkR C wl vl l t).2.2 ≤ 2147483647 * t
theorem pk_good {C : Int} {wl vl l : List Int} (hC : 0 ≤ C) (hF : ItF wl vl) (hl : OrdF l wl.length) : ∀ t, t ≤ wl.length → PkG C wl vl l t
  | 0, _ => ⟨by rw [pk_zero]; simp, fun j => .inl (by rw [pk_zero]; exact nth_rep _ _), by rw [pk_zero]; show ps _ _ + C = C; rw [ps_rep]; omega, by rw [pk_zero]; exact ⟨hC, Int.le_refl _⟩, by rw [pk_zero]; exact ⟨Int.le_refl _, by show (0 : Int) ≤ _; omega⟩⟩
  | t + 1, ht => by
    have G := pk_good hC hF hl t (by omega)
    have r := hl.2.1 t (by omega)
    obtain ⟨k, hk⟩ : ∃ k : Nat, nth l t = (k : Int) := ⟨(nth l t).toNat, by omega⟩
    have kn : k < wl.length := by omega
    have kt : (nth l t).toNat = k := by omega
    have fw := hF.2.2 k kn
    by_cases c : nth wl (nth l t).toNat ≤ (pkR C wl vl l t).2.1
    · have z : nth (pkR C wl vl l t).1 k = 0 := by
        rcases G.bits k with h | ⟨_, s, s1, s2⟩
        · exact h
        · exact absurd (s2.trans hk.symm) (hl.2.2 s t s1 (by omega))
      have hr := G.room
      have hp := ps_set wl (pkR C wl vl l t).1 k wl.length (by rw [G.len]; exact kn) z kn
      have g3 := G.roomR
      have g4 := G.worth
      rw [kt] at c
      refine ⟨?_, ?_, ?_, ?_, ?_⟩
      · rw [pk_yes (by rw [kt]; exact c), kt]; show (List.set _ _ _).length = _; rw [List.length_set]; exact G.len
      · intro j
        rw [pk_yes (by rw [kt]; exact c), kt]
        show nth (List.set _ _ _) j = 0 ∨ (nth (List.set _ _ _) j = 1 ∧ _)
        rw [vnth_set _ _ _ _ (by rw [G.len]; exact kn)]
        by_cases e : k = j
        · rw [if_pos e]; exact .inr ⟨rfl, t, by omega, by rw [hk, e]⟩
        · rw [if_neg e]
          rcases G.bits j with h | ⟨h, s, s1, s2⟩
          · exact .inl h
          · exact .inr ⟨h, s, by omega, s2⟩
      · rw [pk_yes (by rw [kt]; exact c), kt]; show ps (wgt (List.set _ _ _) wl) _ + (_ - _) = C; omega
      · rw [pk_yes (by rw [kt]; exact c), kt]; show 0 ≤ _ - _ ∧ _ - _ ≤ C; omega
      · rw [pk_yes (by rw [kt]; exact c), kt]; show 0 ≤ _ + _ ∧ _ + _ ≤ _; omega
    · have g4 := G.worth
      have e := pk_no (vl := vl) c
      refine ⟨by rw [e]; exact G.len, fun j => ?_, by rw [e]; exact G.room, by rw [e]; exact G.roomR, by rw [e]; omega⟩
      rw [e]
      rcases G.bits j with h | ⟨h, s, s1, s2⟩
      · exact .inl h
      · exact .inr ⟨h, s, by omega, s2⟩
attribute [irreducible] pkR
/-- the best of those that fit alone -/
def baR (C : Int) (wl vl : List Int) : Nat → Int
  | 0 => -1
  | k + 1 => if nth wl k ≤ C ∧ (baR C wl vl k < 0 ∨ nth vl (baR C wl vl k).toNat < nth vl k) then (k : Int) else baR C wl vl k
theorem ba_zero (C : Int) (wl vl : List Int) : baR C wl vl 0 = -1 := rfl
theorem ba_yes {C : Int} {wl vl : List Int} {k : Nat} (h : nth wl k ≤ C) (h1 : baR C wl vl k < 0 ∨ nth vl (baR C wl vl k).toNat < nth vl k) : baR C wl vl (k + 1) = (k : Int) := by
  show (if _ then _ else _) = _; rw [if_pos ⟨h, h1⟩]
theorem ba_no {C : Int} {wl vl : List Int} {k : Nat} (h : ¬ (nth wl k ≤ C ∧ (baR C wl vl k < 0 ∨ nth vl (baR C wl vl k).toNat < nth vl k))) : baR C wl vl (k + 1) = baR C wl vl k := by
  show (if _ then _ else _) = _; rw [if_neg h]
theorem ba_in (C : Int) (wl vl : List Int) : ∀ k, -1 ≤ baR C wl vl k ∧ baR C wl vl k < k ∧ (0 ≤ baR C wl vl k → nth wl (baR C wl vl k).toNat ≤ C)
  | 0 => by rw [ba_zero]; exact ⟨by omega, by omega, fun h => by omega⟩
  | k + 1 => by
    have i := ba_in C wl vl k
    by_cases c : nth wl k ≤ C ∧ (baR C wl vl k < 0 ∨ nth vl (baR C wl vl k).toNat < nth vl k)
    · rw [ba_yes c.1 c.2]
      exact ⟨by omega, by omega, fun _ => by simpa using c.1⟩
    · rw [ba_no c]; exact ⟨i.1, by omega, i.2.2⟩
attribute [irreducible] baR
def packR (C : Int) (wl vl l : List Int) : List Int :=
  if 0 ≤ baR C wl vl wl.length ∧ (pkR C wl vl l l.length).2.2 < nth vl (baR C wl vl wl.length).toNat then (List.replicate wl.length 0).set (baR C wl vl wl.length).toNat 1 else (pkR C wl vl l l.length).1
theorem pack_one {C : Int} {wl vl l : List Int} (h : 0 ≤ baR C wl vl wl.length) (h1 : (pkR C wl vl l l.length).2.2 < nth vl (baR C wl vl wl.length).toNat) : packR C wl vl l = (List.replicate wl.length 0).set (baR C wl vl wl.length).toNat 1 := by
  unfold packR; rw [if_pos ⟨h, h1⟩]
theorem pack_all {C : Int} {wl vl l : List Int} (h : ¬ (0 ≤ baR C wl vl wl.length ∧ (pkR C wl vl l l.length).2.2 < nth vl (baR C wl vl wl.length).toNat)) : packR C wl vl l = (pkR C wl vl l l.length).1 := by
  unfold packR; rw [if_neg h]
theorem bits_ok {x : List Int} (h : ∀ j, j < x.length → nth x j = 0 ∨ nth x j = 1) : anyBad x = false := by
  cases c : anyBad x with
  | false => rfl
  | true => exact absurd h (bad_some x c)
theorem pack_good {C : Int} {wl vl l : List Int} (hC : 0 ≤ C) (hF : ItF wl vl) (hl : OrdF l wl.length) : (packR C wl vl l).length = wl.length ∧ anyBad (packR C wl vl l) = false ∧ ps (wgt (packR C wl vl l) wl) wl.length ≤ C := by
  have G := pk_good hC hF hl wl.length (Nat.le_refl _)
  rw [← hl.1] at G
  by_cases c : 0 ≤ baR C wl vl wl.length ∧ (pkR C wl vl l l.length).2.2 < nth vl (baR C wl vl wl.length).toNat
  · have i := ba_in C wl vl wl.length
    have kn : (baR C wl vl wl.length).toNat < wl.length := by omega
    rw [pack_one c.1 c.2]
    refine ⟨by simp, bits_ok fun j _ => ?_, ?_⟩
    · rw [vnth_set _ _ _ _ (by simpa using kn)]
      split
      · exact .inr rfl
      · exact .inl (nth_rep _ _)
    · rw [ps_set wl _ _ _ (by simpa using kn) (nth_rep _ _) kn, ps_rep]
      have := i.2.2 c.1
      omega
  · rw [pack_all c]
    refine ⟨G.len, bits_ok fun j _ => ?_, ?_⟩
    · rcases G.bits j with h | h
      · exact .inl h
      · exact .inr h.1
    · have := G.room
      have := G.roomR
      omega
attribute [irreducible] packR
/-! ## rows -/
/-- the cheapest of the first k columns that isn't used -/
def chR (row X : List Int) : Nat → Int
  | 0 => -1
  | k + 1 => if (k : Int) ∉ X ∧ (chR row X k < 0 ∨ nth row k < nth row (chR row X k).toNat) then (k : Int) else chR row X k
theorem ch_zero (row X : List Int) : chR row X 0 = -1 := rfl
theorem ch_yes {row X : List Int} {k : Nat} (h : (k : Int) ∉ X) (h1 : chR row X k < 0 ∨ nth row k < nth row (chR row X k).toNat) : chR row X (k + 1) = (k : Int) := by
  show (if _ then _ else _) = _; rw [if_pos ⟨h, h1⟩]
theorem ch_no {row X : List Int} {k : Nat} (h : ¬ ((k : Int) ∉ X ∧ (chR row X k < 0 ∨ nth row k < nth row (chR row X k).toNat))) : chR row X (k + 1) = chR row X k := by
  show (if _ then _ else _) = _; rw [if_neg h]
theorem ch_in (row X : List Int) : ∀ k, -1 ≤ chR row X k ∧ chR row X k < k ∧ (0 ≤ chR row X k → chR row X k ∉ X) ∧ ((∃ j, j < k ∧ (j : Int) ∉ X) → 0 ≤ chR row X k)
  | 0 => by rw [ch_zero]; exact ⟨by omega, by omega, fun h => by omega, fun ⟨j, h, _⟩ => by omega⟩
  | k + 1 => by
    have i := ch_in row X k
    by_cases c : (k : Int) ∉ X ∧ (chR row X k < 0 ∨ nth row k < nth row (chR row X k).toNat)
    · rw [ch_yes c.1 c.2]
      exact ⟨by omega, by omega, fun _ => c.1, fun _ => by omega⟩
    · rw [ch_no c]
      refine ⟨i.1, by omega, i.2.2.1, fun ⟨j, h, h1⟩ => ?_⟩
      by_cases e : j = k
      · subst e
        apply Classical.byContradiction
        intro q
        exact c ⟨h1, .inl (by omega)⟩
      · exact i.2.2.2 ⟨j, by omega, h1⟩
attribute [irreducible] chR
def rowR (K : Int) (cl : List (List Int)) (X : List Int) : List Int := if K = 3 then cl[(nth X (X.length - 1)).toNat]?.getD [] else cl[X.length]?.getD []
theorem row_tour (cl : List (List Int)) (X : List Int) : rowR 3 cl X = cl[(nth X (X.length - 1)).toNat]?.getD [] := by unfold rowR; rw [if_pos rfl]
theorem row_asg (cl : List (List Int)) (X : List Int) : rowR 2 cl X = cl[X.length]?.getD [] := by unfold rowR; rw [if_neg (by decide)]
attribute [irreducible] rowR
/-- the first t numbers -/
def asR (K : Int) (cl : List (List Int)) : Nat → List Int
  | 0 => []
  | t + 1 => if K = 3 ∧ t = 0 then [0] else asR K cl t ++ [chR (rowR K cl (asR K cl t)) (asR K cl t) cl.length]
theorem as_zero (K : Int) (cl : List (List Int)) : asR K cl 0 = [] := rfl
theorem as_one (cl : List (List Int)) : asR 3 cl 1 = [0] := by show (if _ then _ else _) = _; rw [if_pos ⟨rfl, rfl⟩]
theorem as_succ {K : Int} {cl : List (List Int)} {t : Nat} (h : ¬ (K = 3 ∧ t = 0)) : asR K cl (t + 1) = asR K cl t ++ [chR (rowR K cl (asR K cl t)) (asR K cl t) cl.length] := by
  show (if _ then _ else _) = _; rw [if_neg h]
attribute [irreducible] asR
theorem free_one {X : List Int} {n : Nat} (h : X.length < n) : ∃ j, j < n ∧ (j : Int) ∉ X := by
  apply Classical.byContradiction
  intro q
  have := (perm_pig n X fun j hj => Classical.byContradiction fun r => q ⟨j, hj, r⟩).1
  omega
structure AsG (K : Int) (cl : List (List Int)) (t : Nat) : Prop where
  len : (asR K cl t).length = t
  nd : (asR K cl t).Nodup
  rng : ∀ y ∈ asR K cl t, 0 ≤ y ∧ y < cl.length
theorem as_good (K : Int) (cl : List (List Int)) : ∀ t, t ≤ cl.length → AsG K cl t
  | 0, _ => by constructor <;> rw [as_zero] <;> simp
  | t + 1, ht => by
    have G := as_good K cl t (by omega)
    by_cases c : K = 3 ∧ t = 0
    · obtain ⟨rfl, rfl⟩ := c
      constructor <;> rw [as_one]
      · rfl
      · simp
      · intro y hy
        have : y = 0 := by simpa using hy
        subst this
        omega
    · have i := ch_in (rowR K cl (asR K cl t)) (asR K cl t) cl.length
      have h0 := i.2.2.2 (free_one (by rw [G.len]; omega))
      have hn := i.2.2.1 h0
      constructor <;> rw [as_succ c]
      · simp [G.len]
      · rw [List.nodup_append]
        refine ⟨G.nd, by simp, fun a ha b hb => ?_⟩
        have e := List.mem_singleton.1 hb
        intro q
        rw [q, e] at ha
        exact hn ha
      · intro y hy
        rcases List.mem_append.1 hy with h | h
        · exact G.rng y h
        · have e := List.mem_singleton.1 h
          rw [e]; omega
/-- what step t + 1 adds -/
theorem as_new {K : Int} {cl : List (List Int)} {t : Nat} (ht : t < cl.length) : 0 ≤ chR (rowR K cl (asR K cl t)) (asR K cl t) cl.length ∧ chR (rowR K cl (asR K cl t)) (asR K cl t) cl.length < cl.length := by
  have G := as_good K cl t (by omega)
  have i := ch_in (rowR K cl (asR K cl t)) (asR K cl t) cl.length
  exact ⟨i.2.2.2 (free_one (by rw [G.len]; omega)), i.2.1⟩
theorem as_first {cl : List (List Int)} : ∀ t, 1 ≤ t → 1 ≤ (asR 3 cl t).length ∧ nth (asR 3 cl t) 0 = 0
  | 0, h => absurd h (by omega)
  | 1, _ => by rw [as_one]; refine ⟨by simp, ?_⟩; unfold nth; rfl
  | t + 2, _ => by
    have i := as_first (cl := cl) (t + 1) (by omega)
    rw [as_succ (by omega)]
    refine ⟨by rw [List.length_append]; omega, ?_⟩
    have e : nth (asR 3 cl (t + 1) ++ [chR (rowR 3 cl (asR 3 cl (t + 1))) (asR 3 cl (t + 1)) cl.length]) 0 = nth (asR 3 cl (t + 1)) 0 := by
      unfold nth; rw [List.getElem?_append_left (by omega)]
    rw [e]; exact i.2
/-- an answer to a problem with rows -/
theorem as_okx {K N C : Int} {wl vl : List Int} {cl : List (List Int)} (hK : K = 2 ∨ K = 3) (hc : chk K N C wl vl cl = 0) : okx K N (asR K cl cl.length) ∧ (costR K N C wl vl cl (asR K cl cl.length)).2 = 0 := by
  obtain ⟨z0, z⟩ := chk_zero hc
  have zl : (cl.length : Int) = N := by rcases z with z | z <;> omega
  have G := as_good K cl cl.length (Nat.le_refl _)
  have ho : okx K N (asR K cl cl.length) := by
    refine ⟨by rw [G.len]; exact zl, .inr ⟨by omega, fun h3 => ?_, ?_⟩⟩
    · subst h3
      have := (as_first (cl := cl) cl.length (by omega)).2
      unfold nth at this
      exact this
    · have e : N.toNat = cl.length := by omega
      rw [e]
      exact ⟨G.len, od.nodup_all cl.length _ G.nd G.rng G.len⟩
  refine ⟨ho, ?_⟩
  rcases hK with rfl | rfl
  · rw [cost_rows hc ho]
  · rw [cost_ways hc ho]
theorem pack_okx {N C : Int} {wl vl l : List Int} {cl : List (List Int)} (hc : chk 1 N C wl vl cl = 0) (hl : OrdF l wl.length) : okx 1 N (packR C wl vl l) ∧ (costR 1 N C wl vl cl (packR C wl vl l)).2 = 0 := by
  obtain ⟨z0, z⟩ := chk_zero hc
  rcases z with ⟨_, z1, z2, z3, z4, z5, z6⟩ | ⟨z, _⟩
  · have P := pack_good (C := C) (wl := wl) (vl := vl) (l := l) z5.1 ⟨by omega, by omega, items_ok wl vl (by omega) z6⟩ hl
    have ho : okx 1 N (packR C wl vl l) := ⟨by rw [P.1]; exact z2, .inl ⟨rfl, P.2.1⟩⟩
    refine ⟨ho, ?_⟩
    rw [cost_items hc ho]
    unfold itemsR
    rw [P.1, if_neg (by omega)]
  · omega
end Go.Proofs.Ytaobaiifbmhegaa

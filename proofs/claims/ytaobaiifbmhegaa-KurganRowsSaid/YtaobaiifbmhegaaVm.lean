/-
  Problems in form told by their numbers; sums in another order; a mirror's tour the other way round. Plain mathematics.
-/
import Derived.Test.YtaobaiifbmhegaaCost
namespace Go.Proofs.Ytaobaiifbmhegaa
open Go.RowKit
set_option linter.unusedVariables false
theorem nth_def (l : List Int) (j : Nat) : nth l j = l[j]?.getD 0 := by unfold nth; rfl
theorem map_range_get {α : Type} (f : Nat → α) (n i : Nat) (h : i < n) : ((List.range n).map f)[i]? = some (f i) := by
  rw [List.getElem?_map, List.getElem?_range h]; rfl
structure Fm (K : Int) (n : Nat) (C : Int) (wl vl : List Int) (cl : List (List Int)) : Prop where
  n1 : 1 ≤ n
  k : K = 1 ∨ K = 2 ∨ K = 3
  cap : 0 ≤ C ∧ C ≤ 2147483647
  ks : K = 1 → n ≤ 64 ∧ wl.length = n ∧ vl.length = n ∧ cl = [] ∧ ∀ j, j < n → (0 ≤ wl[j]?.getD 0 ∧ wl[j]?.getD 0 ≤ 2147483647) ∧ (0 ≤ vl[j]?.getD 0 ∧ vl[j]?.getD 0 ≤ 2147483647)
  rs : K ≠ 1 → n ≤ 24 ∧ C = 0 ∧ wl = [] ∧ vl = [] ∧ cl.length = n ∧ ∀ a, a < n → (cl[a]?.getD []).length = n ∧ ∀ b, b < n → (0 ≤ (cl[a]?.getD [])[b]?.getD 0 ∧ (cl[a]?.getD [])[b]?.getD 0 ≤ 2147483647) ∧ (K = 3 → a = b → (cl[a]?.getD [])[b]?.getD 0 = 0)
theorem fm_of {K N C : Int} {wl vl : List Int} {cl : List (List Int)} (h : chk K N C wl vl cl = 0) : N = (N.toNat : Nat) ∧ Fm K N.toNat C wl vl cl := by
  obtain ⟨h1, h2⟩ := chk_zero h
  refine ⟨by omega, ?_⟩
  rcases h2 with ⟨rfl, a1, a2, a3, a4, a5, a6⟩ | ⟨hk, a1, a2, a3, a4, a5, a6, a7⟩
  · refine ⟨by omega, .inl rfl, a5, fun _ => ⟨by omega, by omega, by omega, List.length_eq_zero_iff.1 a4, fun j hj => ?_⟩, fun c => absurd rfl c⟩
    simpa only [nth_def] using items_ok wl vl (by omega) a6 j (by omega)
  · refine ⟨by omega, .inr hk, by omega, fun c => by rcases hk with rfl | rfl <;> exact absurd c (by decide), fun _ => ⟨by omega, a3, List.length_eq_zero_iff.1 a4, List.length_eq_zero_iff.1 a5, by omega, fun a ha => ?_⟩⟩
    have e := a6 a (by omega)
    refine ⟨by omega, fun b hb => ?_⟩
    have := row_ok K _ _ 0 (cost_ok K cl 0 a7 a (by omega)) b (by omega)
    simp only [nth_def] at this
    refine ⟨this.1, fun hk hab => this.2 hk (by omega)⟩
theorem items_in : ∀ (wl vl : List Int), (∀ j, j < wl.length → (0 ≤ wl[j]?.getD 0 ∧ wl[j]?.getD 0 ≤ 2147483647) ∧ (0 ≤ vl[j]?.getD 0 ∧ vl[j]?.getD 0 ≤ 2147483647)) → itemsE wl vl = 0
  | [], vl, _ => by simp [itemsE]
  | a :: wl, [], h => by simp [itemsE]
  | a :: wl, b :: vl, h => by
    have h0 := h 0 (by simp)
    simp at h0
    unfold itemsE
    rw [if_pos (num_zero.2 h0.1), if_pos (num_zero.2 h0.2)]
    exact items_in wl vl fun j hj => by simpa using h (j + 1) (by simp; omega)
theorem row_in (K : Int) (a : Nat) : ∀ (r : List Int) (b : Nat), (∀ j, j < r.length → (0 ≤ r[j]?.getD 0 ∧ r[j]?.getD 0 ≤ 2147483647) ∧ (K = 3 → a = b + j → r[j]?.getD 0 = 0)) → rowE K a b r = 0
  | [], b, _ => by unfold rowE; rfl
  | x :: r, b, h => by
    have h0 := h 0 (by simp)
    simp at h0
    unfold rowE
    rw [if_pos (num_zero.2 h0.1), if_neg (fun c => c.2.2 (h0.2 c.1 c.2.1))]
    exact row_in K a r (b + 1) fun j hj => by
      have := h (j + 1) (by simp; omega)
      refine ⟨by simpa using this.1, fun hk ha => by simpa using this.2 hk (by omega)⟩
theorem cost_in (K : Int) : ∀ (cl : List (List Int)) (a : Nat), (∀ j, j < cl.length → rowE K (a + j) 0 (cl[j]?.getD []) = 0) → costE K a cl = 0
  | [], a, _ => by unfold costE; rfl
  | r :: cl, a, h => by
    unfold costE
    rw [if_pos (by simpa using h 0 (by simp))]
    exact cost_in K cl (a + 1) fun j hj => by
      have := h (j + 1) (by simp; omega)
      rw [show a + 1 + j = a + (j + 1) by omega]
      simpa using this
/-- a table, row by row -/
def tab (n : Nat) (M : Nat → Nat → Int) : List (List Int) := (List.range n).map fun a => (List.range n).map fun b => M a b
theorem tab_len (n : Nat) (M : Nat → Nat → Int) : (tab n M).length = n := by simp [tab]
theorem Fm.chk {K : Int} {n : Nat} {C : Int} {wl vl : List Int} {cl : List (List Int)} (h : Fm K n C wl vl cl) : chk K n C wl vl cl = 0 := by
  have h1 := h.n1
  rcases Decidable.em (K = 1) with rfl | hK
  · obtain ⟨a1, a2, a3, a4, a5⟩ := h.ks rfl
    have hF : formP 1 (n : Int) C wl.length vl.length cl := by
      unfold formP; exact Or.inl ⟨rfl, by omega, by omega, by rw [a4]; rfl⟩
    rw [chk_items (by omega) (by omega) (by omega) hF rfl, if_pos (num_zero.2 h.cap)]
    exact items_in wl vl (by rw [a2]; exact a5)
  · obtain ⟨a1, a2, a3, a4, a5, a6⟩ := h.rs hK
    have hk := h.k
    have hF : formP K (n : Int) C wl.length vl.length cl := by
      unfold formP; exact Or.inr ⟨hK, by omega, a2, by rw [a3]; rfl, by rw [a4]; rfl, fun j hj => by rw [(a6 j (by omega)).1]; omega⟩
    rw [chk_costs (by omega) (by omega) (by omega) hF hK]
    exact cost_in K cl 0 fun j hj => row_in K _ _ 0 fun b hb => by
      have hb' : b < n := by rw [(a6 j (by omega)).1] at hb; exact hb
      have := (a6 j (by omega)).2 b hb'
      exact ⟨this.1, fun hk ha => this.2 hk (by omega)⟩
theorem tab_row {n : Nat} {M : Nat → Nat → Int} {a : Nat} (ha : a < n) : (tab n M)[a]?.getD [] = (List.range n).map fun b => M a b := by
  unfold tab; rw [map_range_get _ _ _ ha]; rfl
theorem map_get0 {f : Nat → Int} {n j : Nat} (h : j < n) : ((List.range n).map f)[j]?.getD 0 = f j := by rw [map_range_get _ _ _ h]; rfl
theorem tab_fm {K : Int} {n : Nat} {M : Nat → Nat → Int} (hK : K = 2 ∨ K = 3) (h1 : 1 ≤ n) (h24 : n ≤ 24) (hM : ∀ a b, a < n → b < n → (0 ≤ M a b ∧ M a b ≤ 2147483647) ∧ (K = 3 → a = b → M a b = 0)) : Fm K n 0 [] [] (tab n M) := by
  refine ⟨h1, by omega, by omega, fun c => by omega, fun _ => ⟨h24, rfl, rfl, rfl, tab_len n M, fun a ha => ?_⟩⟩
  rw [tab_row ha]
  refine ⟨by simp, fun b hb => ?_⟩
  rw [map_get0 hb]
  exact hM a b ha hb
def mir (cl : List (List Int)) (a b : Nat) : Int := if a ≤ b then (cl[a]?.getD [])[b]?.getD 0 else (cl[b]?.getD [])[a]?.getD 0
theorem ent_def (cl : List (List Int)) (a b : Nat) : ent cl a b = (cl[a]?.getD [])[b]?.getD 0 := by
  unfold ent
  rw [nth_def]
  simp
theorem rev_get {α : Type} (l : List α) (d : α) (j : Nat) (h : j < l.length) : l.reverse[j]?.getD d = l[l.length - 1 - j]?.getD d := by
  rw [List.getElem?_reverse h]
/-- a sum in another order -/
theorem ps_shift (f : Nat → Int) : ∀ n, ps f (n + 1) = f 0 + ps (fun j => f (j + 1)) n
  | 0 => by rw [ps_succ, ps_zero, ps_zero]; omega
  | n + 1 => by rw [ps_succ, ps_shift f n, ps_succ]; omega
theorem ps_rev (f : Nat → Int) : ∀ n, ps (fun j => f (n - 1 - j)) n = ps f n
  | 0 => by rw [ps_zero, ps_zero]
  | n + 1 => by
    rw [ps_shift, ps_succ]
    rw [ps_congr (fun j => f (n + 1 - 1 - (j + 1))) (fun j => f (n - 1 - j)) n (fun j hj => by rw [show n + 1 - 1 - (j + 1) = n - 1 - j by omega]) n (Nat.le_refl _), ps_rev f n]
    rw [show n + 1 - 1 - 0 = n by omega]
    omega
theorem perm_rev {x : List Int} {n : Nat} (h : permP x n) : permP x.reverse n := ⟨by rw [List.length_reverse]; exact h.1, fun j hj => List.mem_reverse.2 (h.2 j hj)⟩
/-- the rows told in another order -/
theorem rows_turn {n : Nat} {C : Int} {wl vl : List Int} {cl : List (List Int)} {x : List Int} (hF : Fm 2 n C wl vl cl) (hx : okx 2 n x) : costR 2 n C wl vl cl.reverse x.reverse = costR 2 n C wl vl cl x := by
  obtain ⟨a1, rfl, rfl, rfl, a5, a6⟩ := hF.rs (by decide)
  have n1 := hF.n1
  have hl : x.length = n := by have := hx.1; omega
  have hp : permP x n := by
    rcases hx.2 with h | h
    · omega
    · simpa using h.2.2
  have hF2 : Fm 2 n 0 [] [] cl.reverse := by
    refine ⟨hF.n1, hF.k, hF.cap, fun c => absurd c (by decide), fun _ => ⟨a1, rfl, rfl, rfl, by rw [List.length_reverse]; exact a5, fun a ha => ?_⟩⟩
    rw [rev_get _ _ _ (by omega)]
    refine ⟨(a6 _ (by omega)).1, fun b hb => ⟨((a6 (cl.length - 1 - a) (by omega)).2 b hb).1, fun c => absurd c (by decide)⟩⟩
  have hx2 : okx 2 n x.reverse := ⟨by rw [List.length_reverse]; omega, Or.inr ⟨by decide, fun c => absurd c (by decide), by simpa using perm_rev hp⟩⟩
  rw [cost_rows hF.chk hx, cost_rows hF2.chk hx2, List.length_reverse]
  congr 1
  rw [← ps_rev (rowc cl x) x.length]
  refine ps_congr _ _ x.length (fun j hj => ?_) x.length (Nat.le_refl _)
  unfold rowc
  have e1 : nth x.reverse j = nth x (x.length - 1 - j) := by rw [nth_def, nth_def, rev_get _ _ _ hj]
  rw [e1]
  unfold ent
  have e2 : ((j : Int)).toNat = j := by omega
  have e3 : (((x.length - 1 - j : Nat) : Int)).toNat = x.length - 1 - j := by omega
  rw [e2, e3, rev_get _ _ _ (by omega), a5, hl]
theorem mir_sym (cl : List (List Int)) (a b : Nat) : mir cl a b = mir cl b a := by
  unfold mir
  by_cases h : a ≤ b
  · by_cases h2 : b ≤ a
    · rw [show a = b by omega]
    · rw [if_pos h, if_neg h2]
  · rw [if_neg h, if_pos (by omega)]
theorem mir_fm {n : Nat} {C : Int} {wl vl : List Int} {cl : List (List Int)} (hF : Fm 3 n C wl vl cl) : Fm 3 n 0 [] [] (tab n (mir cl)) := by
  obtain ⟨a1, a2, a3, a4, a5, a6⟩ := hF.rs (by decide)
  refine tab_fm (.inr rfl) hF.n1 a1 fun a b ha hb => ?_
  unfold mir
  split
  · exact ⟨((a6 a ha).2 b hb).1, fun _ e => ((a6 a ha).2 b hb).2 rfl e⟩
  · exact ⟨((a6 b hb).2 a ha).1, fun _ e => by omega⟩
/-- a mirror's tour the other way round -/
theorem way_turn {n : Nat} (cl : List (List Int)) {x : List Int} (h1 : 1 ≤ n) (hx : okx 3 n x) : okx 3 n (0 :: (x.drop 1).reverse) ∧ ps (wayc (tab n (mir cl)) (0 :: (x.drop 1).reverse)) n = ps (wayc (tab n (mir cl)) x) n := by
  have hl : x.length = n := by have := hx.1; omega
  obtain ⟨h0, hp⟩ : nth x 0 = 0 ∧ permP x n := by
    rcases hx.2 with h | h
    · omega
    · exact ⟨by rw [nth_def]; exact h.2.1 rfl, by simpa using h.2.2⟩
  obtain ⟨m, rfl⟩ : ∃ m, n = m + 1 := ⟨n - 1, by omega⟩
  have hr := perm_rng hp
  have hyl : (0 :: (x.drop 1).reverse).length = m + 1 := by simp [hl]
  have y0 : nth (0 :: (x.drop 1).reverse) 0 = nth x 0 := by rw [h0, nth_def]; rfl
  have yk : ∀ j, j < m → nth (0 :: (x.drop 1).reverse) (j + 1) = nth x (m - j) := fun j hj => by
    rw [nth_def, nth_def, List.getElem?_cons_succ, rev_get _ _ _ (by simp [hl]; omega), List.getElem?_drop]
    congr 2
    simp [hl]; omega
  generalize hy : (0 :: (x.drop 1).reverse) = y at *
  refine ⟨⟨by omega, Or.inr ⟨by decide, fun _ => by rw [← nth_def, y0, h0], ?_⟩⟩, ?_⟩
  · have e : ((m + 1 : Nat) : Int).toNat = m + 1 := by omega
    rw [e]
    refine ⟨hyl, fun j hj => ?_⟩
    have hm := hp.2 j hj
    cases x with
    | nil => simp at hl
    | cons a t =>
      rw [← hy]
      rcases List.mem_cons.1 hm with q | q
      · have : nth (a :: t) 0 = a := by rw [nth_def]; rfl
        rw [q, ← this, h0]; exact List.mem_cons_self
      · exact List.mem_cons_of_mem _ (List.mem_reverse.2 (by simpa using q))
  · let G : Nat → Int := fun j => mir cl (nth x j).toNat (nth x ((j + 1) % (m + 1))).toNat
    have en : ∀ a b, a < m + 1 → b < m + 1 → ent (tab (m + 1) (mir cl)) (nth x a) (nth x b) = mir cl (nth x a).toNat (nth x b).toNat := fun a b ha hb => by
      have r1 := hr a (by omega)
      have r2 := hr b (by omega)
      unfold ent
      rw [tab_row (by omega), nth_def, map_get0 (by omega)]
    have fx0 : wayc (tab (m + 1) (mir cl)) x 0 = G m := by
      unfold wayc hereAt
      rw [if_pos rfl, hl, en _ _ (by omega) (by omega)]
      show _ = mir cl (nth x m).toNat (nth x ((m + 1) % (m + 1))).toNat
      rw [Nat.mod_self, Nat.add_sub_cancel]
    have fxk : ∀ j, j < m → wayc (tab (m + 1) (mir cl)) x (j + 1) = G j := fun j hj => by
      unfold wayc hereAt
      rw [if_neg (by omega), Nat.add_sub_cancel, en _ _ (by omega) (by omega)]
      show _ = mir cl (nth x j).toNat (nth x ((j + 1) % (m + 1))).toNat
      rw [Nat.mod_eq_of_lt (by omega)]
    have fy0 : wayc (tab (m + 1) (mir cl)) y 0 = G 0 := by
      unfold wayc hereAt
      rw [if_pos rfl, hyl, Nat.add_sub_cancel, y0]
      show _ = mir cl (nth x 0).toNat (nth x ((0 + 1) % (m + 1))).toNat
      cases m with
      | zero => rw [y0, en _ _ (by omega) (by omega), Nat.mod_self]
      | succ m =>
        rw [yk m (by omega), show m + 1 - m = 1 by omega, en _ _ (by omega) (by omega), mir_sym, Nat.mod_eq_of_lt (by omega)]
    have fyk : ∀ j, j < m → wayc (tab (m + 1) (mir cl)) y (j + 1) = G (m - j) := fun j hj => by
      unfold wayc hereAt
      rw [if_neg (by omega), Nat.add_sub_cancel, yk j hj]
      show _ = mir cl (nth x (m - j)).toNat (nth x ((m - j + 1) % (m + 1))).toNat
      cases j with
      | zero =>
        rw [y0, en _ _ (by omega) (by omega), mir_sym, Nat.sub_zero, Nat.mod_self]
      | succ j =>
        rw [yk j (by omega), en _ _ (by omega) (by omega), mir_sym, Nat.mod_eq_of_lt (by omega), show m - (j + 1) + 1 = m - j by omega]
    rw [ps_shift, ps_shift (wayc (tab (m + 1) (mir cl)) x), fx0, fy0, ps_congr _ G m fxk m (Nat.le_refl _), ps_congr _ (fun j => (fun i => G (i + 1)) (m - 1 - j)) m (fun j hj => by rw [fyk j hj]; show G (m - j) = G (m - 1 - j + 1); rw [show m - 1 - j + 1 = m - j by omega]) m (Nat.le_refl _), ps_rev (fun i => G (i + 1)) m]
    have e1 := ps_shift G m
    have e2 := ps_succ G m
    omega
theorem tour_turn {n : Nat} {C : Int} {wl vl : List Int} {cl : List (List Int)} {x : List Int} (hF : Fm 3 n C wl vl cl) (hx : okx 3 n x) :
    costR 3 n C wl vl (tab n (mir cl)) (0 :: (x.drop 1).reverse) = ((costR 3 n C wl vl (tab n (mir cl)) x).1, 0) := by
  obtain ⟨_, rfl, rfl, rfl, _, _⟩ := hF.rs (by decide)
  obtain ⟨h1, h2⟩ := way_turn cl hF.n1 hx
  have hl : x.length = n := by have := hx.1; omega
  have hl2 : (0 :: (x.drop 1).reverse).length = n := by have := h1.1; omega
  rw [cost_ways (mir_fm hF).chk h1, cost_ways (mir_fm hF).chk hx, hl, hl2, h2]
end Go.Proofs.Ytaobaiifbmhegaa

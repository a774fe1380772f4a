/-
  No answer costs more than Total; the plain answer is one: plain mathematics.
-/
import Derived.Test.YtaobaiifbmhegaaPlain
namespace Go.Proofs.Ytaobaiifbmhegaa
set_option linter.unusedVariables false

theorem ps_le (f g : Nat → Int) (n : Nat) (h : ∀ j, j < n → f j ≤ g j) : ∀ k, k ≤ n → ps f k ≤ ps g k
  | 0, _ => by rw [ps_zero, ps_zero]; omega
  | k + 1, hk => by
    have := ps_le f g n h k (by omega)
    have := h k (by omega)
    rw [ps_succ, ps_succ]; omega
theorem mx_ge (l : List Int) : ∀ k j, j ≤ k → nth l j ≤ mxp l k
  | 0, j, hj => by
    obtain rfl : j = 0 := by omega
    rw [mxp_zero]; omega
  | k + 1, j, hj => by
    rw [mxp_succ]
    by_cases h : j = k + 1
    · subst h; omega
    · have := mx_ge l k j (by omega); omega
def sumL : List Int → Int
  | [] => 0
  | x :: xs => x + sumL xs
theorem sumL_perm {l m : List Int} (h : l.Perm m) : sumL l = sumL m := by
  induction h with
  | nil => rfl
  | cons x _ ih => simp only [sumL]; rw [ih]
  | swap x y l => simp only [sumL]; omega
  | trans _ _ ih1 ih2 => rw [ih1, ih2]
theorem sumL_snoc (l : List Int) (x : Int) : sumL (l ++ [x]) = sumL l + x := by
  induction l with
  | nil => simp [sumL]
  | cons y l ih => simp only [List.cons_append, sumL]; rw [ih]; omega
theorem nth_at (l : List Int) (j : Nat) (h : j < l.length) : nth l j = l[j] := by unfold nth; rw [List.getElem?_eq_getElem h]; rfl
theorem ps_take (g : Int → Int) (x : List Int) : ∀ k, k ≤ x.length → ps (fun j => g (nth x j)) k = sumL ((x.take k).map g)
  | 0, _ => by rw [ps_zero]; simp [sumL]
  | k + 1, hk => by
    rw [ps_succ, ps_take g x k (by omega), List.take_succ_eq_append_getElem (by omega), List.map_append, List.map_cons, List.map_nil, sumL_snoc, nth_at x k (by omega)]
theorem ps_list (g : Int → Int) (x : List Int) : ps (fun j => g (nth x j)) x.length = sumL (x.map g) := by
  rw [ps_take g x x.length (Nat.le_refl _), List.take_length]
theorem sum_order (g : Int → Int) : ∀ (n : Nat) (l : List Int), (∀ j, j < n → (j : Int) ∈ l) → l.length = n → sumL (l.map g) = ps (fun j => g (j : Int)) n
  | 0, l, _, hl => by
    have := List.eq_nil_of_length_eq_zero hl
    subst this
    rw [ps_zero]; rfl
  | n + 1, l, h, hl => by
    have hn := h n (by omega)
    have hp := List.perm_cons_erase hn
    rw [sumL_perm (hp.map g), List.map_cons, sumL, ps_succ, sum_order g n (l.erase (n : Int)) (fun j hj => (List.mem_erase_of_ne (by omega)).2 (h j (by omega))) (by rw [List.length_erase_of_mem hn]; omega)]
    omega
theorem ps_perm (g : Int → Int) (x : List Int) (n : Nat) (h : permP x n) : ps (fun j => g (nth x j)) x.length = ps (fun j => g (j : Int)) n := by
  rw [ps_list, sum_order g n x h.2 h.1]
theorem ps_back (h : Nat → Int) (a : Int) : ∀ k, ps (fun j => if j = 0 then a else h (j - 1)) (k + 1) = a + ps h k
  | 0 => by rw [ps_succ, ps_zero, ps_zero]; simp
  | k + 1 => by
    rw [ps_succ, ps_back h a k, ps_succ]
    simp
    omega
theorem ps_rot (h : Nat → Int) (n : Nat) (hn : 0 < n) : ps (fun j => if j = 0 then h (n - 1) else h (j - 1)) n = ps h n := by
  obtain ⟨m, rfl⟩ : ∃ m, n = m + 1 := ⟨n - 1, by omega⟩
  rw [ps_back h (h (m + 1 - 1)) m, ps_succ]
  simp only [Nat.add_sub_cancel]
  omega
theorem cost_le (K N C : Int) (wl vl : List Int) (cl : List (List Int)) (x : List Int) (he : (costR K N C wl vl cl x).2 = 0) :
    (costR K N C wl vl cl x).1 ≤ totalR K N C wl vl cl := by
  by_cases hc : chk K N C wl vl cl = 0
  rotate_left
  · rw [cost_bad hc] at he; exact absurd he hc
  by_cases ho : okx K N x
  rotate_left
  · rw [cost_arg hc ho] at he; cases he
  have hz := chk_zero hc
  rw [total_ok hc]
  rcases (show K = 1 ∨ K = 2 ∨ K = 3 by rcases hz.2 with z | z <;> omega) with rfl | rfl | rfl
  · rw [cost_items hc ho] at *
    obtain ⟨z0, z⟩ := hz
    rcases z with ⟨_, z1, z2, z3, z4, z5, z6⟩ | ⟨z1, _⟩
    · have hl := ho.1
      have hxv : x.length = vl.length := by omega
      unfold itemsR at *
      split
      · rename_i h; rw [if_pos h] at he; cases he
      · rw [z4, ps_zero, ← hxv]
        have := ps_le (lft x vl) (nth vl) x.length (fun j hj => by
          have := items_ok wl vl (by omega) z6 j (by omega)
          unfold lft; split <;> omega) x.length (Nat.le_refl _)
        simp only; omega
    · omega
  · obtain ⟨c1, c2, c3, c4, c5, c6⟩ := chk_rows (by decide) hc ho
    obtain ⟨t1, t2, t3, t4, t5⟩ := chk_tot hc
    rw [cost_rows hc ho]
    have hv := (ps_bd _ _ t3 vl.length (Nat.le_refl _)).1
    have := ps_le (rowc cl x) (rowm cl) x.length (fun j hj => by
      have := c5 j hj
      unfold rowc rowm ent
      exact mx_ge _ _ _ (by omega)) x.length (Nat.le_refl _)
    rw [c1]
    simp only; omega
  · obtain ⟨c1, c2, c3, c4, c5, c6⟩ := chk_rows (by decide) hc ho
    obtain ⟨t1, t2, t3, t4, t5⟩ := chk_tot hc
    rw [cost_ways hc ho]
    have hv := (ps_bd _ _ t3 vl.length (Nat.le_refl _)).1
    have hp : permP x x.length := by rcases ho.2 with h | h; exact absurd h.1 (by decide); exact ⟨rfl, fun j hj => h.2.2.2 j (by have := ho.1; omega)⟩
    have e1 := ps_perm (fun a => rowm cl a.toNat) x x.length hp
    have e2 := ps_rot (fun i => rowm cl (nth x i).toNat) x.length c2
    have e3 : ps (fun j => rowm cl (j : Int).toNat) x.length = ps (rowm cl) x.length := ps_congr _ _ x.length (fun j hj => by simp) x.length (Nat.le_refl _)
    have := ps_le (wayc cl x) (fun j => if j = 0 then rowm cl (nth x (x.length - 1)).toNat else rowm cl (nth x (j - 1)).toNat) x.length (fun j hj => by
      have := c5 j hj
      have hh : rowm cl (hereAt x j).toNat = (if j = 0 then rowm cl (nth x (x.length - 1)).toNat else rowm cl (nth x (j - 1)).toNat) := by
        unfold hereAt; split <;> rfl
      rw [← hh]
      unfold wayc rowm ent
      exact mx_ge _ _ _ (by omega)) x.length (Nat.le_refl _)
    rw [c1]
    show ps (wayc cl x) x.length ≤ _
    omega
/-- the plain answer is an answer -/
theorem nth_pre (n : Nat) (j : Nat) (h : j < n) : nth ((List.range n).map fun (a : Nat) => (a : Int)) j = j := by
  rw [nth_at _ _ (by simpa using h)]; simp
theorem plain_len {K N C : Int} {wl vl : List Int} {cl : List (List Int)} (hc : chk K N C wl vl cl = 0) : ((plainR K N C wl vl cl).length : Int) = N ∧ ∀ j, j < (plainR K N C wl vl cl).length → nth (plainR K N C wl vl cl) j = if K = 1 then 0 else (j : Int) := by
  have hz := (chk_zero hc).1
  by_cases hK : K = 1
  · subst hK
    rw [plain_items hc]
    refine ⟨by simp; omega, fun j hj => ?_⟩
    rw [nth_at _ _ hj, if_pos rfl]; simp
  · rw [plain_rows hc hK]
    refine ⟨by simp; omega, fun j hj => ?_⟩
    rw [if_neg hK, nth_pre _ _ (by simpa using hj)]
theorem bad_none : ∀ l : List Int, (∀ y ∈ l, y = 0) → anyBad l = false
  | [], _ => bad_end (l := []) (k := 0) (Nat.le_refl _)
  | y :: l, h => by
    have e := bad_at (l := y :: l) (k := 0) (by simp)
    have := h y (List.mem_cons_self ..)
    subst this
    have r := bad_none l (fun z hz => h z (List.mem_cons_of_mem _ hz))
    simpa [r] using e
theorem plain_okx {K N C : Int} {wl vl : List Int} {cl : List (List Int)} (hc : chk K N C wl vl cl = 0) : okx K N (plainR K N C wl vl cl) := by
  have hz := (chk_zero hc).1
  obtain ⟨l1, l2⟩ := plain_len hc
  refine ⟨l1, ?_⟩
  by_cases hK : K = 1
  · subst hK
    refine Or.inl ⟨rfl, bad_none _ fun y hy => ?_⟩
    rw [plain_items hc] at hy
    exact (List.mem_replicate.1 hy).2
  · refine Or.inr ⟨hK, fun _ => ?_, by omega, fun j hj => ?_⟩
    · have := l2 0 (by omega)
      rw [if_neg hK] at this
      unfold nth at this
      simpa using this
    · rw [plain_rows hc hK]
      simp
      exact ⟨j, by omega, rfl⟩
theorem plain_cost {K N C : Int} {wl vl : List Int} {cl : List (List Int)} (hc : chk K N C wl vl cl = 0) : (costR K N C wl vl cl (plainR K N C wl vl cl)).2 = 0 := by
  have ho := plain_okx hc
  rcases (show K = 1 ∨ K = 2 ∨ K = 3 by rcases (chk_zero hc).2 with z | z <;> omega) with rfl | rfl | rfl
  · rw [cost_items hc ho]
    obtain ⟨z0, z⟩ := chk_zero hc
    rcases z with ⟨_, z1, z2, z3, z4, z5, z6⟩ | ⟨z1, _⟩
    · have hl := plain_len hc
      have e : ps (wgt (plainR 1 N C wl vl cl) wl) (plainR 1 N C wl vl cl).length = ps (fun _ => 0) (plainR 1 N C wl vl cl).length := ps_congr _ _ _ (fun j hj => by
        unfold wgt
        rw [hl.2 j hj, if_pos rfl]; rfl) _ (Nat.le_refl _)
      have e0 : ∀ k, ps (fun _ => (0 : Int)) k = 0 := fun k => by
        induction k with
        | zero => rw [ps_zero]
        | succ k ih => rw [ps_succ, ih]; rfl
      unfold itemsR
      rw [e, e0, if_neg (by omega)]
    · omega
  · rw [cost_rows hc ho]
  · rw [cost_ways hc ho]
end Go.Proofs.Ytaobaiifbmhegaa

/-
  assign: the least cost of all answers that begin so, and that Bound isn't above it: plain mathematics.
-/
import Derived.Test.YtlhpiikpmmlpeaaDoorBm
import Derived.Test.YtlhpiikpmmlpeaaDoorCb
namespace Go.Proofs.YtlhpiikpmmlpeaaDoor
open Go.RowKit
set_option linter.unusedVariables false
/-- what the reference's Best answers of a beginning that wants d more numbers -/
def bstA (cl : List (List Int)) (n : Nat) : Nat → List Int → Int
  | 0, x => csm cl x n
  | d + 1, x => blR (bstA cl n d) 2 x (mostR 2 n)
theorem bstA_zero (cl : List (List Int)) (n : Nat) (x : List Int) : bstA cl n 0 x = csm cl x n := rfl
theorem bstA_succ (cl : List (List Int)) (n d : Nat) (x : List Int) : bstA cl n (d + 1) x = blR (bstA cl n d) 2 x (mostR 2 n) := rfl
attribute [irreducible] bstA
theorem most2 (n : Nat) : mostR 2 n = n := by unfold mostR; rw [if_neg (by decide)]
theorem skip2 (x : List Int) (k : Nat) : skipR 2 x k = false ↔ (k : Int) ∉ x := by
  unfold skipR
  simp
/-- the least of what numbers lead to is one of them -/
theorem bl_at {r : List Int → Int} {K : Int} {x : List Int} : ∀ k, (∀ j, j < k → skipR K x j = false → 0 ≤ r (x ++ [(j : Int)])) →
    ((∀ j, j < k → skipR K x j = true) ∧ blR r K x k = -1) ∨ ∃ j, j < k ∧ skipR K x j = false ∧ blR r K x k = r (x ++ [(j : Int)])
  | 0, _ => .inl ⟨fun j hj => by omega, bl_zero r K x⟩
  | k + 1, h => by
    have ih := bl_at k (fun j hj => h j (by omega))
    cases s : skipR K x k with
    | true =>
      rw [bl_skip s]
      rcases ih with ⟨a, b⟩ | ⟨j, a, b, c⟩
      · refine .inl ⟨fun j hj => ?_, b⟩
        by_cases e : j = k
        · subst e; exact s
        · exact a j (by omega)
      · exact .inr ⟨j, by omega, b, c⟩
    | false =>
      have h0 := h k (by omega) s
      by_cases q : 0 ≤ r (x ++ [(k : Int)]) ∧ (blR r K x k < 0 ∨ r (x ++ [(k : Int)]) < blR r K x k)
      · rw [bl_new s q]; exact .inr ⟨k, by omega, s, rfl⟩
      · rw [bl_old s q]
        rcases ih with ⟨a, b⟩ | ⟨j, a, b, c⟩
        · exact absurd ⟨h0, .inl (by omega)⟩ q
        · exact .inr ⟨j, by omega, b, c⟩
theorem pre_snoc {n : Nat} {x : List Int} {k : Nat} (h : Pre n x) (hk : k < n) (hx : (k : Int) ∉ x) : Pre n (x ++ [(k : Int)]) := by
  refine ⟨?_, fun v hv => ?_⟩
  · rw [List.nodup_append]
    refine ⟨h.1, by simp, fun a ha b hb e => ?_⟩
    simp at hb
    subst hb
    subst e
    exact hx ha
  · rcases List.mem_append.1 hv with q | q
    · exact h.2 v q
    · simp at q; subst q; omega
/-- Best is the cost of an answer that begins so -/
theorem bst_at {n : Nat} (hn : n ≤ 128) {cl : List (List Int)} (hE : EntB n cl) : ∀ d x, Pre n x → x.length + d = n → ∃ y, Pre n y ∧ y.length = n ∧ y.take x.length = x ∧ bstA cl n d x = csm cl y n
  | 0, x, h, hl => ⟨x, h, by omega, List.take_length, bstA_zero cl n x⟩
  | d + 1, x, h, hl => by
    rw [bstA_succ, most2]
    have ih : ∀ j, j < n → skipR 2 x j = false → ∃ y, Pre n y ∧ y.length = n ∧ y.take (x.length + 1) = x ++ [(j : Int)] ∧ bstA cl n d (x ++ [(j : Int)]) = csm cl y n := fun j hj hs => by
      have := bst_at hn hE d (x ++ [(j : Int)]) (pre_snoc h hj ((skip2 x j).1 hs)) (by simp; omega)
      simpa using this
    have hpos : ∀ j, j < n → skipR 2 x j = false → 0 ≤ bstA cl n d (x ++ [(j : Int)]) := fun j hj hs => by
      obtain ⟨y, y1, y2, y3, y4⟩ := ih j hj hs
      rw [y4]
      exact (csm_bd y1 hE n (by omega)).1
    rcases bl_at n hpos with ⟨a, b⟩ | ⟨j, a, b, c⟩
    · exfalso
      have hf := frl_some hn (show x.length < n by omega)
      obtain ⟨v, hv⟩ := List.exists_mem_of_length_pos (by omega : 0 < (frl n x).length)
      have hm := (frl_mem hn x v).1 hv
      have s := a v.toNat (by omega)
      have e : ((v.toNat : Nat) : Int) = v := by omega
      have := (skip2 x v.toNat).2 (by rw [e]; exact hm.2)
      rw [this] at s
      cases s
    · obtain ⟨y, y1, y2, y3, y4⟩ := ih j a b
      refine ⟨y, y1, y2, ?_, c.trans y4⟩
      have : y.take x.length = (y.take (x.length + 1)).take x.length := by rw [List.take_take]; congr 1; omega
      rw [this, y3]
      simp
theorem smv_add (ab : List Int) : ∀ (pre : List Int) (s t : Int), smv ab pre (s + t) = smv ab pre s + t
  | [], s, t => rfl
  | a :: r, s, t => by
    show smv ab r (s + t + od.nth ab a.toNat) = smv ab r (s + od.nth ab a.toNat) + t
    rw [← smv_add ab r]
    congr 1
    omega
theorem smv_perm (ab : List Int) {l m : List Int} (p : l.Perm m) : ∀ s, smv ab l s = smv ab m s := by
  induction p with
  | nil => intro s; rfl
  | cons a _ ih => intro s; exact ih _
  | swap a b l =>
    intro s
    show smv ab l (s + od.nth ab b.toNat + od.nth ab a.toNat) = smv ab l (s + od.nth ab a.toNat + od.nth ab b.toNat)
    congr 1
    omega
  | trans _ _ i1 i2 => intro s; rw [i1, i2]
/-- every number left over is no more than what a row has there, less the row's least -/
theorem rst_le {n fr : Nat} {cl : List (List Int)} {F : List Int} (hF : ∀ v ∈ F, 0 ≤ v ∧ v < n) (hnd : F.Nodup) (hne : fr < n → F ≠ []) (hE : EntB n cl) {c : Int} (hc : c ∈ F) : ∀ k, fr + k ≤ n → ∀ j, j < k → od.nth (rst n cl F fr k).2 c.toNat + lea (cl[fr + j]?.getD []) F ≤ od.nth (cl[fr + j]?.getD []) c.toNat
  | 0, _, j, hj => by omega
  | k + 1, hk, j, hj => by
    obtain ⟨s1, s2, s3, s4⟩ := rst_bd (fr := fr) hF hne hE k (by omega)
    have ea := abv_at (cl[fr + k]?.getD []) (lea (cl[fr + k]?.getD []) F) F (rst n cl F fr k).2 s2 hF hnd c hc
    show od.nth (abv (cl[fr + k]?.getD []) (lea (cl[fr + k]?.getD []) F) F (rst n cl F fr k).2) c.toNat + _ ≤ _
    rw [ea]
    by_cases e : j = k
    · subst e; omega
    · have := rst_le hF hnd hne hE hc k (by omega) j (by omega)
      omega
theorem csm_take (cl : List (List Int)) (y : List Int) (m : Nat) : ∀ k, k ≤ m → csm cl (y.take m) k = csm cl y k
  | 0, _ => rfl
  | k + 1, hk => by
    show csm cl (y.take m) k + _ = csm cl y k + _
    rw [csm_take cl y m k (by omega)]
    have : od.nth (y.take m) k = od.nth y k := by
      unfold od.nth
      rw [List.getElem?_take_of_lt (by omega)]
    rw [this]
theorem drop_next (y : List Int) (fr k : Nat) (h : fr + k < y.length) : (y.drop fr).take (k + 1) = (y.drop fr).take k ++ [od.nth y (fr + k)] := by
  rw [List.take_succ_eq_append_getElem (by rw [List.length_drop]; omega), List.getElem_drop, ← od.nth_at y (fr + k) h]
/-- no answer costs less than Bound of a beginning of it -/
theorem dual {n fr : Nat} (hn : n ≤ 24) {cl : List (List Int)} (hE : EntB n cl) {y : List Int} (hy : Pre n y) (hl : y.length = n) (hfr : fr ≤ n) :
    csm cl (y.take fr) fr + restR n cl (frl n (y.take fr)) fr ≤ csm cl y n := by
  have hs : y = y.take fr ++ y.drop fr := (List.take_append_drop fr y).symm
  have hnd := hy.1
  rw [hs, List.nodup_append] at hnd
  obtain ⟨nd1, nd2, nd3⟩ := hnd
  obtain ⟨F, hFd⟩ : ∃ F, F = frl n (y.take fr) := ⟨_, rfl⟩
  have hmem : ∀ v, v ∈ F ↔ (0 ≤ v ∧ v < n) ∧ ¬ v ∈ y.take fr := fun v => by rw [hFd]; exact frl_mem (by omega) _ v
  have hF : ∀ v ∈ F, 0 ≤ v ∧ v < n := fun v hv => ((hmem v).1 hv).1
  have hFn : F.Nodup := by rw [hFd, List.nodup_iff_pairwise_ne]; exact (frl_pw n _).imp (fun q => by omega)
  have hin : ∀ v, v ∈ y.drop fr → v ∈ F := fun v hv => (hmem v).2 ⟨hy.2 v (List.mem_of_mem_drop hv), fun q => nd3 v q v hv rfl⟩
  have hall : ∀ v, v ∈ F → v ∈ y.drop fr := fun v hv => by
    have q := (hmem v).1 hv
    have f0 := frl_full (by omega : n ≤ 128) hy
    have hvy : v ∈ y := Classical.byContradiction fun z => by
      have := (frl_mem (by omega : n ≤ 128) y v).2 ⟨q.1, z⟩
      have := List.length_pos_of_mem this
      omega
    rw [hs] at hvy
    rcases List.mem_append.1 hvy with z | z
    · exact absurd z q.2
    · exact z
  have hp : (y.drop fr).Perm F := by
    rw [List.perm_iff_count]
    intro a
    rw [nd2.count, hFn.count]
    by_cases z : a ∈ F
    · rw [if_pos z, if_pos (hall a z)]
    · rw [if_neg z, if_neg (fun q => z (hin a q))]
  have hne : fr < n → F ≠ [] := fun h e => by
    have : od.nth y fr ∈ y.drop fr := by
      rw [od.nth_at y fr (by omega)]
      have := List.getElem_mem (l := y.drop fr) (n := 0) (by rw [List.length_drop]; omega)
      rw [List.getElem_drop] at this
      exact this
    have := hin _ this
    rw [e] at this
    simp at this
  rw [← hFd]
  have main : ∀ k, k ≤ n - fr → smv (rst n cl F fr (n - fr)).2 ((y.drop fr).take k) (csm cl y fr + (rst n cl F fr k).1) ≤ csm cl y (fr + k) := by
    intro k
    induction k with
    | zero =>
      intro _
      show csm cl y fr + 0 ≤ csm cl y (fr + 0)
      rw [Nat.add_zero]
      omega
    | succ k ih =>
      intro hk
      have i := ih (by omega)
      rw [drop_next y fr k (by omega), smv_snoc]
      have e : csm cl y fr + (rst n cl F fr (k + 1)).1 = csm cl y fr + (rst n cl F fr k).1 + lea (cl[fr + k]?.getD []) F := by
        show csm cl y fr + ((rst n cl F fr k).1 + lea (cl[fr + k]?.getD []) F) = _
        omega
      rw [e, smv_add]
      have hc : od.nth y (fr + k) ∈ F := hin _ (by
        rw [od.nth_at y (fr + k) (by omega)]
        have := List.getElem_mem (l := y.drop fr) (n := k) (by rw [List.length_drop]; omega)
        rw [List.getElem_drop] at this
        exact this)
      have r := rst_le hF hFn hne hE hc (n - fr) (by omega) k (by omega)
      show _ ≤ csm cl y (fr + k) + od.nth (cl[fr + k]?.getD []) (od.nth y (fr + k)).toNat
      omega
  have m := main (n - fr) (Nat.le_refl _)
  rw [List.take_of_length_le (by rw [List.length_drop]; omega), smv_perm _ hp, show fr + (n - fr) = n by omega, Int.add_comm, smv_add] at m
  rw [csm_take cl y fr fr (Nat.le_refl _)]
  unfold restR
  omega
/-- Best of a beginning isn't below Bound -/
theorem bst_bound {n : Nat} (hn : n ≤ 24) {cl : List (List Int)} (hE : EntB n cl) {p : List Int} (hp : Pre n p) (d : Nat) (hd : p.length + d = n) :
    0 ≤ csm cl p p.length + restR n cl (frl n p) p.length ∧ csm cl p p.length + restR n cl (frl n p) p.length ≤ bstA cl n d p := by
  obtain ⟨y, y1, y2, y3, y4⟩ := bst_at (by omega) hE d p hp hd
  have := dual hn hE y1 y2 (show p.length ≤ n by omega)
  rw [y3] at this
  refine ⟨?_, by omega⟩
  have a := (csm_bd hp hE p.length (Nat.le_refl _)).1
  have b := (rest_bd hn hp hE).1
  omega
/-- Bound of a whole beginning is its cost -/
theorem bound_whole {n : Nat} (hn : n ≤ 24) {cl : List (List Int)} {p : List Int} (hp : Pre n p) (hl : p.length = n) : csm cl p p.length + restR n cl (frl n p) p.length = csm cl p n := by
  have hf := frl_full (by omega : n ≤ 128) hp
  have e : frl n p = [] := List.eq_nil_of_length_eq_zero (by omega)
  rw [e, hl]
  have : restR n cl [] n = 0 := by
    unfold restR
    rw [Nat.sub_self]
    rfl
  omega
end Go.Proofs.YtlhpiikpmmlpeaaDoor

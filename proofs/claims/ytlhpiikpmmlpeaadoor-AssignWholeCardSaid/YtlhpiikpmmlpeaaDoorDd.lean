/-
  A search that pops a beginning and pushes its children: it finds every answer once. Plain mathematics.
-/
import Derived.Test.YtlhpiikpmmlpeaaDoorAo
import Derived.Test.YtlhpiikpmmlpeaaDoorAv
namespace Go.Proofs.YtlhpiikpmmlpeaaDoor
open Go.RowKit
set_option linter.unusedVariables false
def fac : Nat → Nat
  | 0 => 1
  | n + 1 => (n + 1) * fac n
def nod : Nat → Nat
  | 0 => 1
  | n + 1 => 1 + (n + 1) * nod n
theorem fac_pos : ∀ n, 1 ≤ fac n
  | 0 => Nat.le_refl _
  | n + 1 => by
    have := fac_pos n
    show 1 ≤ (n + 1) * fac n
    have := Nat.mul_le_mul (show 1 ≤ n + 1 by omega) this
    omega
theorem nod_pos : ∀ n, 1 ≤ nod n
  | 0 => Nat.le_refl _
  | n + 1 => by show 1 ≤ 1 + (n + 1) * nod n; omega
def tot (n : Nat) (M : List (List Int)) : Nat := (M.map (fun p => fac (n - p.length))).sum
def msr (n : Nat) (M : List (List Int)) : Nat := (M.map (fun p => nod (n - p.length))).sum
/-- neither begins with the other -/
def Inc (p q : List Int) : Prop := ¬ p <+: q ∧ ¬ q <+: p
theorem Inc.symm {p q : List Int} (h : Inc p q) : Inc q p := ⟨h.2, h.1⟩
theorem Inc.ne {p q : List Int} (h : Inc p q) : p ≠ q := fun e => h.1 (by rw [e]; exact List.prefix_refl _)
/-- where a search stands -/
structure Sch (n : Nat) (M Fd : List (List Int)) : Prop where
  pre : ∀ p, p ∈ M → Pre n p
  ful : ∀ p, p ∈ Fd → Pre n p ∧ p.length = n
  inc : (M ++ Fd).Pairwise Inc
  cnt : tot n M + Fd.length = fac n
theorem tot_app (n : Nat) (M Z : List (List Int)) : tot n (M ++ Z) = tot n M + tot n Z := by unfold tot; rw [List.map_append, List.sum_append_nat]
theorem msr_app (n : Nat) (M Z : List (List Int)) : msr n (M ++ Z) = msr n M + msr n Z := by unfold msr; rw [List.map_append, List.sum_append_nat]
theorem tot_one (n : Nat) (p : List Int) : tot n [p] = fac (n - p.length) := by unfold tot; simp
theorem msr_one (n : Nat) (p : List Int) : msr n [p] = nod (n - p.length) := by unfold msr; simp
theorem sch_start (n : Nat) : Sch n [[]] [] := ⟨fun p hp => by simp at hp; subst hp; exact ⟨List.nodup_nil, fun v hv => by simp at hv⟩, fun p hp => by simp at hp, by simp, by rw [tot_one]; simp⟩
theorem Sch.leaf {n : Nat} {M Fd : List (List Int)} {p : List Int} (h : Sch n (M ++ [p]) Fd) (hl : p.length = n) : Sch n M (Fd ++ [p]) := by
  refine ⟨fun q hq => h.pre q (List.mem_append_left _ hq), fun q hq => ?_, ?_, ?_⟩
  · rcases List.mem_append.1 hq with z | z
    · exact h.ful q z
    · simp at z; subst z; exact ⟨h.pre q (by simp), hl⟩
  · refine (List.Perm.pairwise_iff (fun h => Inc.symm h) ?_).1 h.inc
    rw [List.append_assoc]
    exact List.Perm.append_left M List.perm_append_comm
  · have := h.cnt
    rw [tot_app, tot_one, hl, Nat.sub_self] at this
    rw [List.length_append]
    have e : fac 0 = 1 := rfl
    rw [e] at this
    simp
    omega
theorem kid_sum (f : Nat → Nat) (n : Nat) (p T : List Int) : ((T.map (fun a => p ++ [a])).map (fun q => f (n - q.length))).sum = T.length * f (n - (p.length + 1)) := by
  induction T with
  | nil => simp
  | cons a T ih =>
    rw [List.map_cons, List.map_cons, List.sum_cons, ih, List.length_append, List.length_cons]
    show f (n - (p.length + 1)) + _ = (T.length + 1) * _
    rw [Nat.succ_mul, Nat.add_comm]
theorem Sch.node {n : Nat} (hn : n ≤ 128) {M Fd : List (List Int)} {p T : List Int} (h : Sch n (M ++ [p]) Fd) (hl : p.length < n) (hT : T.Nodup) (hm : ∀ v, v ∈ T → (0 ≤ v ∧ v < n) ∧ v ∉ p) (hTl : T.length = n - p.length) : Sch n (M ++ T.map (fun a => p ++ [a])) Fd := by
  have hp := h.pre p (by simp)
  have hperm : (M ++ [p] ++ Fd).Perm ([p] ++ (M ++ Fd)) := by
    rw [← List.append_assoc]
    exact List.Perm.append_right Fd List.perm_append_comm
  have hpw := (List.Perm.pairwise_iff (fun h => Inc.symm h) hperm).1 h.inc
  rw [List.singleton_append, List.pairwise_cons] at hpw
  refine ⟨fun q hq => ?_, h.ful, ?_, ?_⟩
  · rcases List.mem_append.1 hq with z | z
    · exact h.pre q (List.mem_append_left _ z)
    · obtain ⟨a, ha, rfl⟩ := List.mem_map.1 z
      obtain ⟨b1, b2⟩ := hm a ha
      refine ⟨?_, fun v hv => ?_⟩
      · rw [List.nodup_append]
        refine ⟨hp.1, by simp, fun x hx y hy e => ?_⟩
        simp at hy
        subst hy
        subst e
        exact b2 hx
      · rcases List.mem_append.1 hv with y | y
        · exact hp.2 v y
        · simp at y; subst y; exact b1
  · have hperm2 : (M ++ T.map (fun a => p ++ [a]) ++ Fd).Perm (T.map (fun a => p ++ [a]) ++ (M ++ Fd)) := by
      rw [← List.append_assoc]
      exact List.Perm.append_right Fd List.perm_append_comm
    refine (List.Perm.pairwise_iff (fun h => Inc.symm h) hperm2).2 ?_
    rw [List.pairwise_append]
    refine ⟨?_, hpw.2, fun q hq r hr => ?_⟩
    · rw [List.pairwise_map]
      rw [List.nodup_iff_pairwise_ne] at hT
      refine hT.imp (fun {a b} hab => ?_)
      constructor
      · intro e
        have := e.eq_of_length (by simp)
        simp at this
        exact hab this
      · intro e
        have := e.eq_of_length (by simp)
        simp at this
        exact hab this.symm
    · obtain ⟨a, ha, rfl⟩ := List.mem_map.1 hq
      have i := hpw.1 r hr
      constructor
      · intro e
        exact i.1 ((List.prefix_append p [a]).trans e)
      · intro e
        rcases List.prefix_concat_iff.1 e with z | z
        · exact i.1 (by rw [z]; exact List.prefix_append p [a])
        · exact i.2 z
  · have := h.cnt
    rw [tot_app, tot_one] at this
    rw [tot_app]
    have e : tot n (T.map (fun a => p ++ [a])) = fac (n - p.length) := by
      unfold tot
      rw [kid_sum, hTl]
      obtain ⟨d, hd⟩ : ∃ d, n - p.length = d + 1 := ⟨n - p.length - 1, by omega⟩
      rw [hd, show n - (p.length + 1) = d by omega]
      rfl
    rw [e]
    exact this
theorem msr_leaf (n : Nat) (M : List (List Int)) (p : List Int) : msr n M < msr n (M ++ [p]) := by
  rw [msr_app, msr_one]
  have := nod_pos (n - p.length)
  omega
theorem msr_node {n : Nat} {M : List (List Int)} {p T : List Int} (hl : p.length < n) (hTl : T.length = n - p.length) : msr n (M ++ T.map (fun a => p ++ [a])) < msr n (M ++ [p]) := by
  rw [msr_app, msr_app, msr_one]
  have e : msr n (T.map (fun a => p ++ [a])) = T.length * nod (n - (p.length + 1)) := by unfold msr; rw [kid_sum]
  rw [e, hTl]
  obtain ⟨d, hd⟩ : ∃ d, n - p.length = d + 1 := ⟨n - p.length - 1, by omega⟩
  rw [hd, show n - (p.length + 1) = d by omega]
  show _ < _ + (1 + (d + 1) * nod d)
  omega
theorem tot_ge (n : Nat) : ∀ M : List (List Int), M.length ≤ tot n M
  | [] => Nat.zero_le _
  | p :: M => by
    have := tot_ge n M
    have := fac_pos (n - p.length)
    show M.length + 1 ≤ fac (n - p.length) + tot n M
    omega
theorem Sch.len {n : Nat} {M Fd : List (List Int)} (h : Sch n M Fd) : M.length + Fd.length ≤ fac n := by
  have := tot_ge n M
  have := h.cnt
  omega
theorem fac_mono : ∀ {m n : Nat}, m ≤ n → fac m ≤ fac n
  | m, 0, h => by
    obtain rfl : m = 0 := by omega
    exact Nat.le_refl _
  | m, n + 1, h => by
    rcases Nat.lt_or_ge m (n + 1) with c | c
    · have := fac_mono (show m ≤ n by omega)
      show fac m ≤ (n + 1) * fac n
      have := Nat.mul_le_mul (show 1 ≤ n + 1 by omega) (Nat.le_refl (fac n))
      omega
    · obtain rfl : m = n + 1 := by omega
      exact Nat.le_refl _
theorem Sch.fin {n : Nat} {Fd : List (List Int)} (h : Sch n [] Fd) : Fd.length = fac n ∧ ∀ i j, i < Fd.length → j < i → Fd[i]?.getD [] ≠ Fd[j]?.getD [] := by
  refine ⟨by have := h.cnt; unfold tot at this; simpa using this, fun i j hi hj => ?_⟩
  have := h.inc
  rw [List.nil_append, List.pairwise_iff_getElem] at this
  have q := this j i (by omega) hi hj
  rw [List.getElem?_eq_getElem hi, List.getElem?_eq_getElem (by omega)]
  exact fun e => q.ne e.symm
/-- children are what is left, each once -/
theorem KidT.mem {row l T : List Int} (h : KidT row l T) (hl : l.Nodup) : T.Nodup ∧ ∀ v, v ∈ T → v ∈ l := by
  have key : ∀ x, x < T.length → ∃ a, a < l.length ∧ od.rko (ltL row l) l.length a = x ∧ od.nth T x = od.nth l a := fun x hx => by
    obtain ⟨a, ha, e⟩ := rko_onto (ltL_ord l.length row l) x (by rw [← h.len]; exact hx)
    exact ⟨a, ha, e, by rw [← e]; exact h.rk a ha⟩
  refine ⟨?_, fun v hv => ?_⟩
  · rw [List.nodup_iff_pairwise_ne, List.pairwise_iff_getElem]
    intro x y hx hy hxy e
    obtain ⟨a, ha, e1, e2⟩ := key x hx
    obtain ⟨b, hb, e3, e4⟩ := key y hy
    rw [od.nth_at T x hx] at e2
    rw [od.nth_at T y hy] at e4
    have : od.nth l a = od.nth l b := by rw [← e2, ← e4, e]
    rw [od.nth_at l a ha, od.nth_at l b hb] at this
    rw [List.nodup_iff_pairwise_ne, List.pairwise_iff_getElem] at hl
    rcases Nat.lt_trichotomy a b with q | q | q
    · exact hl a b ha hb q this
    · subst q; omega
    · exact hl b a hb ha q this.symm
  · obtain ⟨x, hx, rfl⟩ := List.mem_iff_getElem.1 hv
    obtain ⟨a, ha, _, e2⟩ := key x hx
    rw [od.nth_at T x hx] at e2
    rw [e2, od.nth_at l a ha]
    exact List.getElem_mem _
end Go.Proofs.YtlhpiikpmmlpeaaDoor

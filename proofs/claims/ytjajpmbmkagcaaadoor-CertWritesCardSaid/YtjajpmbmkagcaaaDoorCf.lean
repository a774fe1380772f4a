/-
  cert: the reader's steps, whatever its state; what a text tells.
-/
import Derived.Test.YtjajpmbmkagcaaaDoorCe
namespace Go.Proofs.YtjajpmbmkagcaaaDoor
open Go.RowKit
set_option linter.unusedVariables false
theorem pff_le (s q : ByteArray) (a : Nat) : ∀ b k, a + k ≤ s.size → k ≤ pff s q a b k ∧ a + pff s q a b k ≤ s.size
  | 0, k, h => by
    rw [show pff s q a 0 k = k from by unfold pff; rfl]
    exact ⟨Nat.le_refl _, h⟩
  | b + 1, k, h => by
    by_cases c : k < q.size ∧ a + k < s.size ∧ s.get! (a + k) = q.get! k
    · rw [pff_step s q a b k c]
      have := pff_le s q a b (k + 1) (by omega)
      omega
    · rw [pff_stop s q a (b + 1) k c]
      exact ⟨Nat.le_refl _, h⟩
theorem ltf_le (s : ByteArray) (a : Nat) : ∀ b k, a + k ≤ s.size → a + ltf s a b k ≤ s.size
  | 0, k, h => by
    rw [show ltf s a 0 k = k from by unfold ltf; rfl]
    exact h
  | b + 1, k, h => by
    by_cases c : a + k < s.size ∧ ltr ((s.get! (a + k)).toNat : Int) = true
    · rw [ltf_step s a b k c]
      exact ltf_le s a b (k + 1) (by omega)
    · rw [ltf_stop s a (b + 1) k c]
      exact h
theorem ndf_all (t : ByteArray) : ∀ b k j, k ≤ j → j < ndf t b k → isd t j
  | 0, k, j, h1, h2 => by
    rw [show ndf t 0 k = k from by unfold ndf; rfl] at h2
    omega
  | b + 1, k, j, h1, h2 => by
    by_cases c : isd t k
    · rw [ndf_step t b k c] at h2
      by_cases e : j = k
      · subst e; exact c
      · exact ndf_all t b (k + 1) j (by omega) h2
    · rw [ndf_end t (b + 1) k c] at h2
      omega
theorem rdv_nn (t : ByteArray) (a : Int) : 0 ≤ (rdv t a).1 := by
  unfold rdv
  split
  · exact Int.le_refl 0
  · split
    · exact Int.le_refl 0
    · exact (dv_b t (nd t) (fun j hj => ndf_all t _ 0 j (by omega) hj)).1
theorem nmv_bd {s : ByteArray} {a : Nat} {most : Int} (h : nme s a most = 0) : 0 ≤ nmv s a ∧ nmv s a ≤ most := by
  refine ⟨rdv_nn _ _, ?_⟩
  unfold nme at h
  split at h
  · exact absurd h (by decide)
  · split at h
    · rename_i h1 h2; exact absurd h h2
    · split at h
      · exact absurd h (by decide)
      · unfold nmv; omega
theorem nmn_le {s : ByteArray} {a : Nat} (ha : a ≤ s.size) : nmn s a ≤ s.size := by
  have h := nd_le (rest s a) (rest s a).size 0 (Nat.zero_le _)
  have e : (rest s a).size = s.size - a := by unfold rest; exact size_sub s a ha
  unfold nmn nd
  omega
/-- a state: where it stands, its error -/
abbrev St := Nat × Int
def pasS (s q : ByteArray) (x : St) : St := if x.2 = 0 then (x.1 + pf s q x.1, pfe s q x.1) else x
def numS (s : ByteArray) (most : Int) (x : St) : St := if x.2 = 0 then (if nme s x.1 most = 0 then nmn s x.1 else x.1, nme s x.1 most) else x
def cntS (s : ByteArray) (x : St) : St := if x.2 = 0 then (if cte s x.1 = 0 then nmn s x.1 else x.1, cte s x.1) else x
def cntV (s : ByteArray) (x : St) : Nat := if (cntS s x).2 = 0 then (nmv s x.1).toNat else 0
def treS (s : ByteArray) (x : St) : St := if x.2 = 0 then (x.1 + trk s x.1, tre s x.1) else x
def treV (s : ByteArray) (x : St) : ByteArray := if (treS s x).2 = 0 then s.extract x.1 (x.1 + lt s x.1) else ⟨#[]⟩
theorem pasS_le {s q : ByteArray} {x : St} (h : x.1 ≤ s.size) : (pasS s q x).1 ≤ s.size := by
  unfold pasS
  split
  · exact (pff_le s q x.1 q.size 0 h).2
  · exact h
theorem numS_le {s : ByteArray} {most : Int} {x : St} (h : x.1 ≤ s.size) : (numS s most x).1 ≤ s.size := by
  unfold numS
  split
  · show (if nme s x.1 most = 0 then nmn s x.1 else x.1) ≤ s.size
    split
    · exact nmn_le h
    · exact h
  · exact h
theorem cntS_le {s : ByteArray} {x : St} (h : x.1 ≤ s.size) : (cntS s x).1 ≤ s.size := by
  unfold cntS
  split
  · show (if cte s x.1 = 0 then nmn s x.1 else x.1) ≤ s.size
    split
    · exact nmn_le h
    · exact h
  · exact h
theorem treS_le {s : ByteArray} {x : St} (h : x.1 ≤ s.size) : (treS s x).1 ≤ s.size := by
  unfold treS
  split
  · have := ltf_le s x.1 (s.size - x.1) 0 h
    show x.1 + trk s x.1 ≤ s.size
    unfold trk lt
    split
    · unfold lt at *; omega
    · exact this
  · exact h
theorem cntV_le (s : ByteArray) (x : St) : cntV s x ≤ 64 := by
  unfold cntV
  split
  · rename_i h
    unfold cntS at h
    split at h
    · have h : cte s x.1 = 0 := h
      unfold cte at h
      split at h
      · rename_i h1; exact absurd h h1
      · rename_i h1
        have := nmv_bd (s := s) (a := x.1) (most := 64) (by omega)
        omega
    · rename_i h1; exact absurd h h1
  · exact Nat.zero_le _
section
variable {p : Nat} {s : ByteArray} {x : St} {w : World}
theorem pass_st (q : ByteArray) (hq : q.size ≤ 8) (hq2 : ∀ j, j < q.size → (q.get! j).toNat < 128) (h : RB p s x.1 x.2 w) (ha : x.1 ≤ s.size) (hs : s.size ≤ 2000000) :
    Calls Tryd.prog 29 #[.pointer (some ⟨p, 0, none⟩), .string q] w fun e w' => e = .returned (.tuple #[]) ∧ RB p s (pasS s q x).1 (pasS s q x).2 w' ∧ Tw [p] w w' := by
  by_cases e : x.2 = 0
  · rw [e] at h
    refine (pass_any q hq hq2 h ha rfl hs).mono ?_
    rintro f w' ⟨h1, h2, h3⟩
    unfold pasS
    rw [if_pos e]
    exact ⟨h1, h2, h3⟩
  · refine (pass_err q h e).mono ?_
    rintro f w' ⟨h1, rfl⟩
    unfold pasS
    rw [if_neg e]
    exact ⟨h1, h, Tw.refl _ _⟩
theorem number_st (most : Int) (h : RB p s x.1 x.2 w) (ha : x.1 ≤ s.size) (hs : s.size ≤ 2000000) :
    Calls Tryd.prog 30 #[.pointer (some ⟨p, 0, none⟩), .int .i64 most] w fun e w' => ∃ v : Int, e = .returned (.int .i64 v) ∧ ((numS s most x).2 = 0 → v = nmv s x.1) ∧ RB p s (numS s most x).1 (numS s most x).2 w' ∧ Tw [p] w w' := by
  by_cases e : x.2 = 0
  · rw [e] at h
    refine (number_any (most := most) h ha hs).mono ?_
    rintro f w' ⟨v, h1, h2, h3, h4⟩
    unfold numS
    rw [if_pos e]
    exact ⟨v, h1, h2, h3, h4⟩
  · refine (number_err (most := most) h e).mono ?_
    rintro f w' ⟨h1, rfl⟩
    unfold numS
    rw [if_neg e]
    exact ⟨0, h1, fun h => absurd h e, h, Tw.refl _ _⟩
theorem count_st (h : RB p s x.1 x.2 w) (ha : x.1 ≤ s.size) (hs : s.size ≤ 2000000) :
    Calls Tryd.prog 31 #[.pointer (some ⟨p, 0, none⟩)] w fun e w' => e = .returned (.int .i64 (cntV s x : Int)) ∧ RB p s (cntS s x).1 (cntS s x).2 w' ∧ Tw [p] w w' := by
  by_cases e : x.2 = 0
  · rw [e] at h
    refine (count_any h ha hs).mono ?_
    rintro f w' ⟨h1, h2, h3⟩
    have e1 : cntS s x = (if cte s x.1 = 0 then nmn s x.1 else x.1, cte s x.1) := by unfold cntS; rw [if_pos e]
    have e2 : (cntV s x : Int) = if cte s x.1 = 0 then nmv s x.1 else 0 := by
      unfold cntV
      rw [e1]
      show ((if cte s x.1 = 0 then (nmv s x.1).toNat else 0 : Nat) : Int) = _
      split
      · have := rdv_nn (rest s x.1) x.1
        unfold nmv
        omega
      · rfl
    rw [e1, e2]
    exact ⟨h1, h2, h3⟩
  · refine (count_err h e).mono ?_
    rintro f w' ⟨h1, rfl⟩
    have e1 : cntS s x = x := by unfold cntS; rw [if_neg e]
    have e2 : cntV s x = 0 := by unfold cntV; rw [e1, if_neg e]
    rw [e1, e2]
    exact ⟨h1, h, Tw.refl _ _⟩
theorem tree_st (CL : ∀ (t : ByteArray) (W : World), t.size ≤ 2000000 → Calls Tryd.prog 38 #[.string t] W fun e w' => e = .returned (.string t) ∧ Below W.heap.size W w') (h : RB p s x.1 x.2 w) (ha : x.1 ≤ s.size) (hs : s.size ≤ 2000000) :
    Calls Tryd.prog 32 #[.pointer (some ⟨p, 0, none⟩)] w fun e w' => e = .returned (.string (treV s x)) ∧ RB p s (treS s x).1 (treS s x).2 w' ∧ Tw [p] w w' := by
  by_cases e : x.2 = 0
  · rw [e] at h
    refine (tree_any CL h ha rfl hs).mono ?_
    rintro f w' ⟨h1, h2, h3⟩
    have e1 : treS s x = (x.1 + trk s x.1, tre s x.1) := by unfold treS; rw [if_pos e]
    have e2 : treV s x = if tre s x.1 = 0 then s.extract x.1 (x.1 + lt s x.1) else ⟨#[]⟩ := by unfold treV; rw [e1]
    rw [e1, e2]
    exact ⟨h1, h2, h3⟩
  · refine (tree_err h e).mono ?_
    rintro f w' ⟨h1, rfl⟩
    have e1 : treS s x = x := by unfold treS; rw [if_neg e]
    have e2 : treV s x = ⟨#[]⟩ := by unfold treV; rw [e1, if_neg e]
    rw [e1, e2]
    exact ⟨h1, h, Tw.refl _ _⟩
end
/-! a whole text -/
def qC : ByteArray := ⟨#[67, 69, 82, 84, 32]⟩
def qS : ByteArray := ⟨#[32]⟩
def qN : ByteArray := ⟨#[10]⟩
def cr0 (s : ByteArray) : St := pasS s qC (0, 0)
def cr1 (s : ByteArray) : St := numS s 1125899906842624 (cr0 s)
def cr2 (s : ByteArray) : St := pasS s qS (cr1 s)
def cr3 (s : ByteArray) : St := cntS s (cr2 s)
def sep (j : Nat) : ByteArray := if j = 0 then qN else qS
def els (s : ByteArray) : Nat → St
  | 0 => cr3 s
  | j + 1 => numS s 999 (pasS s (sep j) (els s j))
def elv (s : ByteArray) : Nat → List Int
  | 0 => []
  | j + 1 => elv s j ++ [nmv s (pasS s (sep j) (els s j)).1]
def crn (s : ByteArray) : Nat := cntV s (cr2 s)
def cr5 (s : ByteArray) : St := pasS s qN (els s (crn s))
def cr6 (s : ByteArray) : St := treS s (cr5 s)
def cr7 (s : ByteArray) : St := pasS s qN (cr6 s)
/-- the end: place and error -/
def crE (s : ByteArray) : St := if (cr7 s).2 = 0 ∧ (cr7 s).1 < s.size then ((cr7 s).1, 7) else cr7 s
theorem cr0_le (s : ByteArray) : (cr0 s).1 ≤ s.size := pasS_le (Nat.zero_le _)
theorem cr1_le (s : ByteArray) : (cr1 s).1 ≤ s.size := numS_le (cr0_le s)
theorem cr2_le (s : ByteArray) : (cr2 s).1 ≤ s.size := pasS_le (cr1_le s)
theorem cr3_le (s : ByteArray) : (cr3 s).1 ≤ s.size := cntS_le (cr2_le s)
theorem els_le (s : ByteArray) : ∀ j, (els s j).1 ≤ s.size
  | 0 => cr3_le s
  | j + 1 => numS_le (pasS_le (els_le s j))
theorem cr5_le (s : ByteArray) : (cr5 s).1 ≤ s.size := pasS_le (els_le s _)
theorem cr6_le (s : ByteArray) : (cr6 s).1 ≤ s.size := treS_le (cr5_le s)
theorem cr7_le (s : ByteArray) : (cr7 s).1 ≤ s.size := pasS_le (cr6_le s)
theorem qC_ok : qC.size ≤ 8 ∧ ∀ j, j < qC.size → (qC.get! j).toNat < 128 := ⟨by decide, by decide⟩
theorem qS_ok : qS.size ≤ 8 ∧ ∀ j, j < qS.size → (qS.get! j).toNat < 128 := ⟨by decide, by decide⟩
theorem qN_ok : qN.size ≤ 8 ∧ ∀ j, j < qN.size → (qN.get! j).toNat < 128 := ⟨by decide, by decide⟩
theorem sep_ok (j : Nat) : (sep j).size ≤ 8 ∧ ∀ k, k < (sep j).size → ((sep j).get! k).toNat < 128 := by
  unfold sep
  split
  · exact qN_ok
  · exact qS_ok
end Go.Proofs.YtjajpmbmkagcaaaDoor

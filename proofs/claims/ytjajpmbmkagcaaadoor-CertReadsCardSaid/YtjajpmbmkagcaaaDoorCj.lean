/-
  cert: an error stays; a sign that is wanted.
-/
import Derived.Test.YtjajpmbmkagcaaaDoorCg
namespace Go.Proofs.YtjajpmbmkagcaaaDoor
open Go.RowKit
set_option linter.unusedVariables false
theorem pasS_err {s q : ByteArray} {x : St} (h : x.2 ≠ 0) : pasS s q x = x := by unfold pasS; rw [if_neg h]
theorem numS_err {s : ByteArray} {most : Int} {x : St} (h : x.2 ≠ 0) : numS s most x = x := by unfold numS; rw [if_neg h]
theorem cntS_err {s : ByteArray} {x : St} (h : x.2 ≠ 0) : cntS s x = x := by unfold cntS; rw [if_neg h]
theorem treS_err {s : ByteArray} {x : St} (h : x.2 ≠ 0) : treS s x = x := by unfold treS; rw [if_neg h]
theorem crE_7 {s : ByteArray} (h : (cr7 s).2 ≠ 0) : crE s = cr7 s := by unfold crE; rw [if_neg (fun e => h e.1)]
theorem crE_6 {s : ByteArray} (h : (cr6 s).2 ≠ 0) : crE s = cr6 s := by
  have e : cr7 s = cr6 s := pasS_err h
  rw [← e]
  exact crE_7 (by rw [e]; exact h)
theorem crE_5 {s : ByteArray} (h : (cr5 s).2 ≠ 0) : crE s = cr5 s := by
  have e : cr6 s = cr5 s := treS_err h
  rw [← e]
  exact crE_6 (by rw [e]; exact h)
theorem crE_n {s : ByteArray} (h : (els s (crn s)).2 ≠ 0) : crE s = els s (crn s) := by
  have e : cr5 s = els s (crn s) := pasS_err h
  rw [← e]
  exact crE_5 (by rw [e]; exact h)
theorem els_err {s : ByteArray} {j : Nat} (h : (els s j).2 ≠ 0) : ∀ k, els s (j + k) = els s j
  | 0 => rfl
  | k + 1 => by
    have e := els_err h k
    have h2 : (els s (j + k)).2 ≠ 0 := by rw [e]; exact h
    rw [show j + (k + 1) = (j + k) + 1 from rfl]
    show numS s 999 (pasS s (sep (j + k)) (els s (j + k))) = _
    rw [pasS_err h2, numS_err h2, e]
theorem crE_j {s : ByteArray} {j : Nat} (hj : j ≤ crn s) (h : (els s j).2 ≠ 0) : crE s = els s j := by
  have e := els_err h (crn s - j)
  rw [show j + (crn s - j) = crn s by omega] at e
  rw [← e]
  exact crE_n (by rw [e]; exact h)
theorem crE_s {s : ByteArray} {j : Nat} (hj : j < crn s) (h : (pasS s (sep j) (els s j)).2 ≠ 0) : crE s = pasS s (sep j) (els s j) := by
  have e : els s (j + 1) = pasS s (sep j) (els s j) := numS_err h
  rw [← e]
  exact crE_j hj (by rw [e]; exact h)
theorem crE_3 {s : ByteArray} (h : (cr3 s).2 ≠ 0) : crE s = cr3 s := crE_j (j := 0) (Nat.zero_le _) h
theorem crE_2 {s : ByteArray} (h : (cr2 s).2 ≠ 0) : crE s = cr2 s := by
  have e : cr3 s = cr2 s := cntS_err h
  rw [← e]
  exact crE_3 (by rw [e]; exact h)
theorem crE_1 {s : ByteArray} (h : (cr1 s).2 ≠ 0) : crE s = cr1 s := by
  have e : cr2 s = cr1 s := pasS_err h
  rw [← e]
  exact crE_2 (by rw [e]; exact h)
theorem crE_0 {s : ByteArray} (h : (cr0 s).2 ≠ 0) : crE s = cr0 s := by
  have e : cr1 s = cr0 s := numS_err h
  rw [← e]
  exact crE_1 (by rw [e]; exact h)
/-- one sign -/
theorem pf_one (s q : ByteArray) (a c : Nat) (hq : q.size = 1) (hc : (q.get! 0).toNat = c) : pasS s q (a, 0) = if sgv s a c = 0 then (a + 1, 0) else (a, sgv s a c) := by
  unfold pasS
  rw [if_pos rfl]
  show (a + pf s q a, pfe s q a) = _
  unfold pfe
  by_cases h : a < s.size
  · by_cases e : (s.get! a).toNat = c
    · have p : pf s q a = 1 := by
        unfold pf
        rw [hq, pff_step s q a 0 0 ⟨by omega, by omega, by rw [Nat.add_zero]; exact UInt8.toNat_inj.mp (e.trans hc.symm)⟩]
        exact pff_stop s q a 0 1 (fun h => by omega)
      have g : sgv s a c = 0 := by unfold sgv; rw [if_neg (by omega), if_pos e]
      rw [p, hq, g, if_pos rfl, if_pos rfl]
    · have p : pf s q a = 0 := by
        unfold pf
        rw [hq]
        exact pff_stop s q a 1 0 (fun h => e (by have := h.2.2; rw [Nat.add_zero] at this; rw [this]; exact hc))
      have g : sgv s a c = 2 := by unfold sgv; rw [if_neg (by omega), if_neg e]
      rw [p, hq, g, if_neg (by decide), if_pos (by omega), if_neg (by decide), Nat.add_zero]
  · have p : pf s q a = 0 := by
      unfold pf
      rw [hq]
      exact pff_stop s q a 1 0 (fun h => by omega)
    have g : sgv s a c = 6 := by unfold sgv; rw [if_pos (by omega)]
    rw [p, hq, g, if_neg (by decide), if_neg (by omega), if_neg (by decide), Nat.add_zero]
theorem pas_S (s : ByteArray) (x : St) (h : x.2 = 0) : pasS s qS x = if sgv s x.1 32 = 0 then (x.1 + 1, 0) else (x.1, sgv s x.1 32) := by
  obtain ⟨a, e⟩ := x
  have h : e = 0 := h
  subst h
  exact pf_one s qS a 32 rfl rfl
theorem pas_N (s : ByteArray) (x : St) (h : x.2 = 0) : pasS s qN x = if sgv s x.1 10 = 0 then (x.1 + 1, 0) else (x.1, sgv s x.1 10) := by
  obtain ⟨a, e⟩ := x
  have h : e = 0 := h
  subst h
  exact pf_one s qN a 10 rfl rfl
end Go.Proofs.YtjajpmbmkagcaaaDoor

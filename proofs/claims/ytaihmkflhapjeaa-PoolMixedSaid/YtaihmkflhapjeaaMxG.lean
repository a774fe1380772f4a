/-
  PoolMixed: a list cut at a place.
-/
import Derived.Test.YtaihmkflhapjeaaMxF
import Derived.Test.YtaihmkflhapjeaaKeepL
namespace Go.Proofs.Ytaihmkflhapjeaa
open Go.RowKit Go.MuLone
set_option linter.unusedVariables false
theorem undrew_g {X w2 : World} {r : Option Nat} (h : X.drew.grownBy w2 r) : X.grownBy w2 r := ⟨h.os, h.tape, h.output, h.size, h.block⟩
theorem own_ge {X : World} {B g n c m : Nat} {xs : List Value} (h : X.ownsRow B 3 1 (.slice (some ⟨g, 0, none⟩) n c) m xs) : B ≤ g := by
  rcases h.2 with ⟨e, _⟩ | ⟨g', cap, cur, e, hg, _⟩
  · cases e
  · cases e; exact hg
theorem ints_map (L : List Nat) : (ints L).map (Value.int .i64) = L.map iv := by unfold ints; rw [List.map_map]; rfl
theorem sl_hi (W : World) (g n c k : Nat) (h : k ≤ c) (hc : c ≤ 9223372036854775807) : (Instr.sliceAt 36 (.slice (some ⟨g, 0, none⟩) n c) none (some (.int .i64 (k : Int))) none).run Try.prog W = .ok (.slice (some ⟨g, 0, none⟩) k c) W ∧ (Instr.slice 36 (.slice (some ⟨g, 0, none⟩) n c) none (some (.int .i64 (k : Int))) none).run Try.prog W = .ok (.slice (some ⟨g, 0, none⟩) k c) W := by
  have h1 : (k : Int) ≤ (c : Int) := by omega
  constructor <;> go_simp
theorem sl_lo (W : World) (g n c k : Nat) (h : k < n) (h2 : n ≤ c) (hc : c ≤ 9223372036854775807) : (Instr.sliceAt 36 (.slice (some ⟨g, 0, none⟩) n c) (some (.int .i64 ((k : Int) + 1))) none none).run Try.prog W = .ok (.slice (if c = k + 1 then some ⟨g, 0, none⟩ else some ⟨g, k + 1, none⟩) (n - (k + 1)) (c - (k + 1))) W ∧ (Instr.slice 36 (.slice (some ⟨g, 0, none⟩) n c) (some (.int .i64 ((k : Int) + 1))) none none).run Try.prog W = .ok (.slice (if c = k + 1 then some ⟨g, 0, none⟩ else some ⟨g, k + 1, none⟩) (n - (k + 1)) (c - (k + 1))) W := by
  have h1 : 0 ≤ (k : Int) + 1 := by omega
  have h3 : (k : Int) + 1 ≤ (n : Int) := by omega
  constructor <;> go_simp
theorem oh_at {B : Nat} {v : Value} {L : List Nat} {w : World} (h : Oh B v L w) (h0 : 0 < L.length) : ∃ g c, v = .slice (some ⟨g, 0, none⟩) L.length c ∧ Own B g L.length c (ints L) w w := by
  obtain ⟨g, c, e⟩ := own_form h (fun e => by
    obtain ⟨a, c, e2⟩ := h.form
    rw [e2] at e
    injection e with _ e _
    omega)
  refine ⟨g, c, e, ints_len L, ?_, by rw [ints_map]; rw [← e]; exact h, Below.refl _ _⟩
  exact (h.blk g (by rw [e]; simp [vblk])).1
theorem oh_cut {B : Nat} {v : Value} {L : List Nat} {w : World} (h : Oh B v L w) {k : Nat} (hk : k < L.length) : ∃ (l1 l2 : List Int) (g c : Nat) (a2 : Option Addr) (c2 : Nat), v = .slice (some ⟨g, 0, none⟩) L.length c ∧ k = l1.length ∧ l1 = ints (L.take k) ∧ l2 = ints (L.drop (k + 1)) ∧ l1.length + l2.length ≤ L.length ∧ w.cell? ⟨g, 0 + k, none⟩ = some (.int .i64 (L[k] : Nat)) ∧
    (∀ W, (Instr.sliceAt 36 (.slice (some ⟨g, 0, none⟩) L.length c) none (some (.int .i64 (l1.length : Int))) none).run Try.prog W = .ok (.slice (some ⟨g, 0, none⟩) l1.length c) W) ∧
    (∀ W, (Instr.slice 36 (.slice (some ⟨g, 0, none⟩) L.length c) none (some (.int .i64 (l1.length : Int))) none).run Try.prog W = .ok (.slice (some ⟨g, 0, none⟩) l1.length c) W) ∧
    (∀ W, (Instr.sliceAt 36 (.slice (some ⟨g, 0, none⟩) L.length c) (some (.int .i64 ((l1.length : Int) + 1))) none none).run Try.prog W = .ok (.slice a2 l2.length c2) W) ∧
    (∀ W, (Instr.slice 36 (.slice (some ⟨g, 0, none⟩) L.length c) (some (.int .i64 ((l1.length : Int) + 1))) none none).run Try.prog W = .ok (.slice a2 l2.length c2) W) ∧
    ∀ X, Below w.heap.size w X → SrcA X (some ⟨g, 0, none⟩) c l1 ∧ SrcA X a2 c2 l2 := by
  obtain ⟨g, c, rfl, O⟩ := oh_at h (by omega)
  obtain ⟨c1, c2⟩ := O.cap
  obtain ⟨cur, hcu⟩ := O.blk
  have e1 : k = (ints (L.take k)).length := by rw [ints_len, List.length_take]; omega
  have e2 : (ints (L.drop (k + 1))).length = L.length - (k + 1) := by rw [ints_len, List.length_drop]
  refine ⟨ints (L.take k), ints (L.drop (k + 1)), g, c, if c = k + 1 then some ⟨g, 0, none⟩ else some ⟨g, k + 1, none⟩, c - (k + 1), rfl, e1, rfl, rfl, by rw [e2, ← e1]; omega, ?_, fun W => ?_, fun W => ?_, fun W => ?_, fun W => ?_, fun X hb => ⟨.inr ⟨_, rfl, cells_src fun j hj => ?_⟩, ?_⟩⟩
  · rw [Nat.zero_add, O.cell k hk, nth_at _ _ (by rw [ints_len]; exact hk)]
    simp [ints]
  · rw [← e1]; exact (sl_hi W g L.length c k (by omega) c2).1
  · rw [← e1]; exact (sl_hi W g L.length c k (by omega) c2).2
  · rw [← e1, e2]; exact (sl_lo W g L.length c k hk c1 c2).1
  · rw [← e1, e2]; exact (sl_lo W g L.length c k hk c1 c2).2
  · rw [← e1] at hj
    rw [Nat.zero_add]
    refine (hb.cell (p := ⟨g, j, none⟩) (lt_hp hcu)).trans ?_
    rw [O.cell j (by omega), nth_at _ _ (by rw [ints_len]; omega), nth_at _ _ (by rw [← e1]; exact hj)]
    simp [ints]
  · by_cases e : c = k + 1
    · rw [if_pos e]
      have : L.drop (k + 1) = [] := List.drop_eq_nil_of_le (by omega)
      rw [this]
      exact .inr ⟨_, rfl, fun j u hj => by simp [ints] at hj⟩
    · rw [if_neg e]
      refine .inr ⟨_, rfl, cells_src fun j hj => ?_⟩
      have hj2 : j < L.length - (k + 1) := by rw [← e2]; exact hj
      refine (hb.cell (p := ⟨g, k + 1 + j, none⟩) (lt_hp hcu)).trans ?_
      rw [O.cell (k + 1 + j) (by omega), nth_at _ _ (by rw [ints_len]; omega), nth_at _ _ hj]
      simp [ints]
end Go.Proofs.Ytaihmkflhapjeaa

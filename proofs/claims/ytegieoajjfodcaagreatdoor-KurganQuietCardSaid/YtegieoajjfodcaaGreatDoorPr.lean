/-
  Parse.
-/
import Derived.Test.YtegieoajjfodcaaGreatDoorProb
import Derived.Test.YtegieoajjfodcaaGreatDoorScan
namespace Go.Proofs.YtegieoajjfodcaaGreatDoor
open Go.RowKit
set_option linter.unusedVariables false
/-- a problem's value in memory, and its lists -/
structure IV (v : Value) (K : Int) (N : Nat) (C : Int) (wl vl : List Int) (cl : List (List Int)) (B : Nat) (w : World) : Prop where
  ex : ∃ (wa va ca : Option Addr) (wc vc cc : Nat), v = .agg #[.int .i64 K, .int .i64 N, .int .i64 C, .slice wa wl.length wc, .slice va vl.length vc, .slice ca cl.length cc] ∧
    w.ownsRow B 3 1 (.slice wa wl.length wc) wl.length (enc wl) ∧ w.ownsRow B 3 1 (.slice va vl.length vc) vl.length (enc vl) ∧
    ((cl = [] ∧ ca = none ∧ cc = 0) ∨ ∃ (gc : Nat) (gs : Nat → Nat) (M : Nat → Nat → Int), ca = some ⟨gc, 0, none⟩ ∧ cc = cl.length ∧ cl = tab cl.length M ∧ TBL B gc cl.length gs M w)
/-- what Parse answers -/
def PaP (w : World) (r : PRes) (e : Ending) (w' : World) : Prop := match r with
  | .ok K N C wl vl cl => ∃ v, e = .returned (.tuple #[v, .int .i64 0, .int .i64 0]) ∧ IV v K N C wl vl cl w.heap.size w' ∧ Below w.heap.size w w'
  | .bad p er => e = .returned (.tuple #[.agg #[.int .i64 0, .int .i64 0, .int .i64 0, .slice none 0 0, .slice none 0 0, .slice none 0 0], .int .i64 p, .int .i64 er]) ∧ Below w.heap.size w w'
/-- what a text tells -/
def PX (s : ByteArray) : PRes := match SP s 0 [] with
  | .ok T => PR T
  | .bad p e => .bad p e
theorem tab_len (n : Nat) (M : Nat → Nat → Int) : (tab n M).length = n := by simp [tab]
theorem tab_congr {n : Nat} {M M' : Nat → Nat → Int} (h : ∀ i j, i < n → j < n → M i j = M' i j) : tab n M = tab n M' := by
  unfold tab
  apply List.map_congr_left
  intro i hi
  apply List.map_congr_left
  intro j hj
  exact h i j (List.mem_range.1 hi) (List.mem_range.1 hj)
theorem fin_zero {T : List Tok} {s : St} (h : (fin T s).f = 0) : s.f = 0 := (fin_ok h).1
/-- where nothing is wrong, n is told -/
theorem n_ok {T : List Tok} (hT : Toks T) {s : St} {most : Int} (h : (sz T s most).f = 0) : s.f = 0 ∧ nOf T s most = (tk T s.p).num.toNat ∧ sz T s most = ⟨s.p + 1, 0⟩ := by
  unfold sz at h ⊢
  obtain ⟨h1, h2⟩ := adv_zero h
  refine ⟨h1, by unfold nOf; rw [if_pos ⟨h1, h2⟩], by rw [h2]; exact adv_ok h1⟩
theorem s1_ok {T : List Tok} (h : (s1 T).f = 0) : s1 T = ⟨1, 0⟩ := by
  unfold s1 at h ⊢
  obtain ⟨h1, h2⟩ := adv_zero h
  rw [h2]; exact adv_ok rfl
theorem s3_ok {T : List Tok} {s : St} (h : (s3 T s).f = 0) : s.f = 0 ∧ s3 T s = ⟨s.p + 1, 0⟩ := by
  unfold s3 at h ⊢
  obtain ⟨h1, h2⟩ := adv_zero h
  exact ⟨h1, by rw [h2]; exact adv_ok h1⟩
theorem rs_mono (n : Nat) : ∀ k a, rs n a ≤ rs n (a + k)
  | 0, a => Nat.le_refl _
  | k + 1, a => by
    have := rs_mono n k a
    show rs n a ≤ rs n (a + k) + (n - 1 - (a + k))
    omega
theorem rs_lt (n i j : Nat) (h : i < j) (hj : j < n) : rs n i + (j - i - 1) < rs n n := by
  have h1 := rs_mono n (n - (i + 1)) (i + 1)
  rw [show i + 1 + (n - (i + 1)) = n by omega] at h1
  have h2 : rs n (i + 1) = rs n i + (n - 1 - i) := rfl
  omega
theorem WL_eq {T : List Tok} {p n : Nat} (h : ∀ j, j < 1 + 2 * n → eE (tk T (p + j)) = 0) : WL T ⟨p, 0⟩ n = (List.range n).map fun j => (tk T (p + (1 + 2 * j))).num := by
  unfold WL
  apply List.map_congr_left
  intro j hj
  have hj := List.mem_range.1 hj
  rw [vn_ok eK T p _ (fun q hq => h q (by omega)), show 1 + (j + j) = 1 + 2 * j by omega]
theorem VL_eq {T : List Tok} {p n : Nat} (h : ∀ j, j < 1 + 2 * n → eE (tk T (p + j)) = 0) : VL T ⟨p, 0⟩ n = (List.range n).map fun j => (tk T (p + (2 + 2 * j))).num := by
  unfold VL
  apply List.map_congr_left
  intro j hj
  have hj := List.mem_range.1 hj
  rw [vn_ok eK T p _ (fun q hq => h q (by omega)), show 1 + (j + j + 1) = 2 + 2 * j by omega]
/-- what problem answered, where nothing was wrong, is what the tokens tell -/
theorem pr_ok {b g C : Nat} {T : List Tok} (hT : Toks T) {w w' : World} {r : Ending} (h : PPost b g C T w r w') (hf : (fin T (PS T)).f = 0) :
    ∃ v K N Cc wl vl cl, PR T = .ok K N Cc wl vl cl ∧ r = .returned v ∧ IV v K N Cc wl vl cl w.heap.size w' ∧ RS b g C T (PS T) w' ∧ w.grownBy w' (some b) := by
  have hp := fin_zero hf
  unfold PPost at h
  unfold PR
  rw [if_neg (by rw [hf]; simp)]
  by_cases h1 : idx3 (tk T 0).text = 1
  · rw [if_pos h1] at h ⊢
    obtain ⟨gc, gs, rfl, hR, hTb, hG⟩ := h
    have hS : PS T = aSt T (s1 T) := by unfold PS; rw [if_pos h1]
    rw [hS] at hp
    obtain ⟨a1, a2, a3⟩ := steps_zero eK T _ _ hp
    obtain ⟨b1, b2, b3⟩ := n_ok hT a1
    have c1 := s1_ok b1
    rw [c1] at b2 b3 hTb
    have b2' : nOf T ⟨1, 0⟩ 24 = (tk T 1).num.toNat := b2
    refine ⟨_, _, _, _, _, _, _, rfl, rfl, ⟨none, none, _, 0, 0, _, ?_, World.ownsRow_nil _ _ _ _, World.ownsRow_nil _ _ _ _, Or.inr ⟨gc, gs, MA T 2 (tk T 1).num.toNat, rfl, rfl, by rw [tab_len], ?_⟩⟩, hR, hG⟩
    · rw [c1, b2', tab_len]; rfl
    · rw [tab_len]
      rw [b2'] at hTb
      refine hTb.congr (fun i j hi hj => ?_)
      unfold FA MA
      rw [b3]
      rw [c1, b3, b2'] at a3
      have hk : i * (tk T 1).num.toNat + j < (tk T 1).num.toNat * (tk T 1).num.toNat := by
        have : (i + 1) * (tk T 1).num.toNat ≤ (tk T 1).num.toNat * (tk T 1).num.toNat := Nat.mul_le_mul_right _ hi
        rw [Nat.succ_mul] at this
        omega
      exact vn_ok eK T 2 _ (fun q hq => (a3 q (by omega)).1)
  · rw [if_neg h1] at h ⊢
    by_cases h2 : idx3 (tk T 0).text = 2
    · rw [if_pos h2] at h ⊢
      obtain ⟨gc, gs, rfl, hR, hTb, hG⟩ := h
      have hS : PS T = tSt T (s1 T) := by unfold PS; rw [if_neg h1, if_pos h2]
      rw [hS] at hp
      unfold tSt at hp
      by_cases h3 : idx2 (tk T (sz T (s1 T) 24).p).text = 0
      · rw [if_pos h3] at hp
        unfold FT at hTb
        rw [if_pos h3] at hTb
        obtain ⟨a1, a2, a3⟩ := steps_zero _ T _ _ hp
        obtain ⟨e1, e2⟩ := s3_ok a1
        obtain ⟨b1, b2, b3⟩ := n_ok hT e1
        have c1 := s1_ok b1
        rw [c1] at b2 b3 hTb e2 a3 h3
        have b2' : nOf T ⟨1, 0⟩ 24 = (tk T 1).num.toNat := b2
        rw [b3] at e2 hTb a3 h3
        rw [e2] at hTb a3
        rw [b2'] at hTb a3
        rw [if_pos h3]
        refine ⟨_, _, _, _, _, _, _, rfl, rfl, ⟨none, none, _, 0, 0, _, ?_, World.ownsRow_nil _ _ _ _, World.ownsRow_nil _ _ _ _, Or.inr ⟨gc, gs, MA T 3 (tk T 1).num.toNat, rfl, rfl, by rw [tab_len], ?_⟩⟩, hR, hG⟩
        · rw [c1, b2', tab_len]; rfl
        · rw [tab_len]
          refine hTb.congr (fun i j hi hj => ?_)
          have hk : i * (tk T 1).num.toNat + j < (tk T 1).num.toNat * (tk T 1).num.toNat := by
            have : (i + 1) * (tk T 1).num.toNat ≤ (tk T 1).num.toNat * (tk T 1).num.toNat := Nat.mul_le_mul_right _ hi
            rw [Nat.succ_mul] at this
            omega
          unfold FF MA
          by_cases e : i = j
          · subst e
            rw [if_pos rfl]
            have := (a3 _ hk).1
            rw [fE_diag _ _ hi] at this
            exact (zf_ok this).2.symm
          · rw [if_neg e]
            exact vn_ok _ T 3 _ (fun q hq => (a3 q (by omega)).1)
      · rw [if_neg h3] at hp
        unfold FT at hTb
        rw [if_neg h3] at hTb
        obtain ⟨a1, a2, a3⟩ := steps_zero _ T _ _ hp
        obtain ⟨e1, e2⟩ := s3_ok a1
        obtain ⟨b1, b2, b3⟩ := n_ok hT e1
        have c1 := s1_ok b1
        rw [c1] at b2 b3 hTb e2 a3 h3
        have b2' : nOf T ⟨1, 0⟩ 24 = (tk T 1).num.toNat := b2
        rw [b3] at e2 hTb a3 h3
        rw [e2] at hTb a3
        rw [b2'] at hTb a3
        rw [if_neg h3]
        refine ⟨_, _, _, _, _, _, _, rfl, rfl, ⟨none, none, _, 0, 0, _, ?_, World.ownsRow_nil _ _ _ _, World.ownsRow_nil _ _ _ _, Or.inr ⟨gc, gs, MU T (tk T 1).num.toNat, rfl, rfl, by rw [tab_len], ?_⟩⟩, hR, hG⟩
        · rw [c1, b2', tab_len]; rfl
        · rw [tab_len]
          refine hTb.congr (fun i j hi hj => ?_)
          unfold MM MU FU
          by_cases e : i = j
          · rw [if_pos e, if_pos e]
          · rw [if_neg e, if_neg e]
            by_cases q : i < j
            · rw [if_pos q, if_pos q]
              have hl := rs_lt _ i j q hj
              exact vn_ok _ T 3 _ (fun q hq => (a3 q (by omega)).1)
            · rw [if_neg q, if_neg q]
              have hl := rs_lt _ j i (by omega) hi
              exact vn_ok _ T 3 _ (fun q hq => (a3 q (by omega)).1)
    · rw [if_neg h2] at h ⊢
      obtain ⟨aw, av, cw, cv, rfl, hW, hV, hR, hG⟩ := h
      have hS : PS T = kSt T (s1 T) := by unfold PS; rw [if_neg h1, if_neg h2]
      rw [hS] at hp
      obtain ⟨a1, a2, a3⟩ := steps_zero eK T _ _ hp
      obtain ⟨b1, b2, b3⟩ := n_ok hT a1
      have c1 := s1_ok b1
      rw [c1] at b2 b3 hW hV a3
      have b2' : nOf T ⟨1, 0⟩ 64 = (tk T 1).num.toNat := b2
      rw [b3] at hW hV a3
      rw [b2'] at hW hV a3
      have hE : ∀ j, j < 1 + 2 * (tk T 1).num.toNat → eE (tk T (2 + j)) = 0 := fun j hj => (a3 j hj).1
      rw [WL_eq hE] at hW
      rw [VL_eq hE] at hV
      have lW : (kWl T (tk T 1).num.toNat).length = (tk T 1).num.toNat := by simp [kWl]
      have lV : (kVl T (tk T 1).num.toNat).length = (tk T 1).num.toNat := by simp [kVl]
      refine ⟨_, _, _, _, _, _, _, rfl, rfl, ⟨aw, av, none, cw, cv, 0, ?_, by rw [lW]; exact hW, by rw [lV]; exact hV, Or.inl ⟨rfl, rfl, rfl⟩⟩, hR, hG⟩
      rw [c1, b2', b3, lW, lV]
      rfl
end Go.Proofs.YtegieoajjfodcaaGreatDoor

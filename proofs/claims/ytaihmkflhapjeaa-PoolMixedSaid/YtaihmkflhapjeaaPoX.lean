/-
  Several acts at once: how one begins; what Own and Shared tell.
-/
import Derived.Test.YtaihmkflhapjeaaPoV
import Derived.Test.YtaihmkflhapjeaaPoN
namespace Go.Proofs.Ytaihmkflhapjeaa
open Go.RowKit Go.MuLone
set_option linter.unusedVariables false
section
variable {A : Ad} {nv : Nat → Value} {nb : Nat → Int} {hd : Nat → Bool} {ow : Nat → Value} {l : List Int} {s : Int} {own : Nat → List Nat} {st : List Nat} {loc : Nat → Loc} {ac : Nat → Option Xa} {B i : Nat} {H : List Nat} {w w1 : World} {x : Xa}
theorem Mx.up (h : Mx A nv nb hd ow l s own st loc ac B H w) (k : Below w.heap.size w w1) : Mx A nv nb hd ow l s own st loc ac B H w1 :=
  ⟨h.px, h.po.up k, h.k4, h.s0, fun i hi => (h.ol i hi).keep (Tw.of (S := []) k) (by simp), h.oa, h.ha, fun i hi => Nat.lt_of_lt_of_le (h.hw i hi) k.size, Nat.le_trans h.hB k.size, fun i hi x hx => by
    obtain ⟨a1, a2⟩ := h.ax i hi x hx
    exact ⟨a1.keep (Tw.of (S := []) k) (by simp), a2⟩⟩
/-- nothing that the pool knows of has turned -/
theorem Mx.aside {S : List Nat} (h : Mx A nv nb hd ow l s own st loc ac B H w) (k : Tw S w w1) (hS : ∀ i, i ∈ S → i ∈ H) : Mx A nv nb hd ow l s own st loc ac B H w1 := by
  have hn : ∀ i, i = A.p ∨ i = A.g ∨ i = A.b ∨ i = A.bn ∨ i = A.bh ∨ i = A.bo → i ∉ S := fun i hi hm => (h.ha i hi).2 (hS i hm)
  refine ⟨h.px, h.po.keep k (hn _ (by simp)) (hn _ (by simp)) (hn _ (by simp)) (hn _ (by simp)) (hn _ (by simp)) (hn _ (by simp)), h.k4, h.s0, fun i hi => (h.ol i hi).keep k (fun b hb hv => (h.oa i hi b hv).2.1 (hS b hb)), h.oa, h.ha, fun i hi => Nat.lt_of_lt_of_le (h.hw i hi) k.size, Nat.le_trans h.hB k.size, fun i hi x hx => ?_⟩
  obtain ⟨a1, a2, a3, a4⟩ := h.ax i hi x hx
  exact ⟨a1.keep k (fun hm => a3 (hS _ hm)), a2, a3, a4⟩
/-- one more block that isn't the pool's -/
theorem Mx.ext (h : Mx A nv nb hd ow l s own st loc ac B H w) (b : Nat) (hb : b < w.heap.size) (hn : b ≠ A.p ∧ b ≠ A.g ∧ b ≠ A.b ∧ b ≠ A.bn ∧ b ≠ A.bh ∧ b ≠ A.bo) (ho : ∀ i, i < 4 → b ∉ vblk (ow i)) (hx : ∀ i, i < 4 → ∀ x, ac i = some x → b ≠ x.a) : Mx A nv nb hd ow l s own st loc ac B (b :: H) w := by
  refine ⟨h.px, h.po, h.k4, h.s0, h.ol, fun i hi c hc => ?_, fun c hc => ?_, fun c hc => ?_, h.hB, fun i hi x hx' => ?_⟩
  · obtain ⟨o1, o2, o3⟩ := h.oa i hi c hc
    refine ⟨o1, fun hm => ?_, o3⟩
    rcases List.mem_cons.mp hm with e | e
    · subst e; exact ho i hi hc
    · exact o2 e
  · obtain ⟨o1, o2⟩ := h.ha c hc
    refine ⟨o1, fun hm => ?_⟩
    rcases List.mem_cons.mp hm with e | e
    · subst e; obtain ⟨n1, n2, n3, n4, n5, n6⟩ := hn; rcases hc with c | c | c | c | c | c <;> omega
    · exact o2 e
  · rcases List.mem_cons.mp hc with e | e
    · subst e; exact hb
    · exact h.hw c e
  · obtain ⟨a1, a2, a3, a4⟩ := h.ax i hi x hx'
    refine ⟨a1, a2, fun hm => ?_, a4⟩
    rcases List.mem_cons.mp hm with e | e
    · exact hx i hi x hx' e.symm
    · exact a3 e
theorem Px.begin {n base : Nat} (h : Px n base l hd s own st loc ac) (hi : i < 4) (hx : ac i = none) (y : Xa) (hy : y.gv = false ∧ y.nx = 1) : Px n base l hd s own st loc (upf ac i (some y)) := by
  refine ⟨h.len, h.n2, h.hdl, h.inst, h.inow, h.idx, h.snd, h.ond, h.o2, fun j hj z hz => ?_, fun m hm j hj => ?_, h.t0, h.t1, h.vr, h.sk⟩
  · by_cases e : j = i
    · subst e; rw [upf_at] at hz; cases hz; exact .inl ⟨hy.1, .inl hy.2⟩
    · rw [upf_ne _ _ _ _ e] at hz; exact h.acs j hj z hz
  · obtain ⟨h1, z, h2, h3⟩ := h.cov m hm j hj
    refine ⟨h1, z, ?_, h3⟩
    rw [upf_ne]
    · exact h2
    · intro e; subst e; rw [hx] at h2; cases h2
theorem Px.beging {n base m : Nat} (h : Px n base l hd s own st loc ac) (hi : i < 4) (hx : ac i = none) (hm : m < n) (hl : loc m = .hold i) (y : Xa) (hy : y.gv = true ∧ y.nx = 0 ∧ y.sl = m) : Px n base l hd s own st (upf loc m (.giv i)) (upf ac i (some y)) := by
  have hne : ∀ q, loc q ≠ .hold i → q ≠ m := fun q h1 e => h1 (by rw [e]; exact hl)
  refine ⟨h.len, h.n2, fun k hk => ?_, fun k => ?_, fun j hj k => ?_, fun k hk j hj => ?_, h.snd, h.ond, h.o2, fun j hj z hz => ?_, fun k hk j hj => ?_, h.t0, h.t1, h.vr, h.sk⟩
  · rw [h.hdl k hk]
    by_cases e : k = m
    · subst e; rw [upf_at, hl]
      constructor
      · exact fun _ => ⟨i, .inr rfl⟩
      · exact fun _ => ⟨i, .inl rfl⟩
    · rw [upf_ne _ _ _ _ e]
  · rw [h.inst]
    by_cases e : k = m
    · subst e; rw [upf_at, hl]; simp
    · rw [upf_ne _ _ _ _ e]
  · rw [h.inow j hj]
    by_cases e : k = m
    · subst e; rw [upf_at, hl]; simp
    · rw [upf_ne _ _ _ _ e]
  · by_cases e : k = m
    · subst e; rw [upf_at] at hj; cases hj
    · rw [upf_ne _ _ _ _ e] at hj; exact h.idx k hk j hj
  · by_cases e : j = i
    · subst e
      rw [upf_at] at hz
      cases hz
      exact .inr ⟨hy.1, m, hy.2.2, hm, .inl ⟨hy.2.1, upf_at _ _ _⟩⟩
    · rw [upf_ne _ _ _ _ e] at hz
      exact (h.acs j hj z hz).mono (fun k hk hl2 => upf_ne _ _ _ _ (hne k (not_hold hl2))) (.inl ⟨rfl, fun _ _ _ => rfl⟩) (fun _ _ _ => rfl)
  · by_cases e : k = m
    · subst e
      rw [upf_at] at hj
      rcases hj with hj | hj
      · cases hj
        exact ⟨hi, y, upf_at _ _ _, hy.1, hy.2.2⟩
      · cases hj
    · rw [upf_ne _ _ _ _ e] at hj
      obtain ⟨h1, z, h2, h3⟩ := h.cov k hk j hj
      refine ⟨h1, z, ?_, h3⟩
      rw [upf_ne]
      · exact h2
      · intro e; subst e; rw [hx] at h2; cases h2
/-- an act's box is laid -/
theorem Mx.lay {loc' : Nat → Loc} {a : Nat} {gv : Bool} {nx sl : Int} (h : Mx A nv nb hd ow l s own st loc ac B H w) (hi : i < 4) (hx : ac i = none) (hb : Below w.heap.size w w1) (ha : w.heap.size ≤ a) (hA : Ac a A (i : Int) gv nx sl 0 0 w1) (px' : Px A.n A.base l hd s own st loc' (upf ac i (some ⟨a, gv, nx, sl, 0, 0⟩))) : Mx A nv nb hd ow l s own st loc' (upf ac i (some ⟨a, gv, nx, sl, 0, 0⟩)) B H w1 := by
  have u := h.up hb
  refine ⟨px', u.po, u.k4, u.s0, u.ol, u.oa, u.ha, u.hw, u.hB, fun j hj y hy => ?_⟩
  have old : ∀ k, k < 4 → ∀ z, ac k = some z → z.a ≠ a := fun k hk z hz e => by
    have := lt_hp (h.ax k hk z hz).1
    omega
  by_cases e : j = i
  · subst e
    rw [upf_at] at hy
    cases hy
    refine ⟨hA, Nat.le_trans h.hB ha, fun hm => ?_, fun k hk e2 z hz => ?_⟩
    · have := h.hw a hm; omega
    · rw [upf_ne _ _ _ _ e2] at hz
      exact fun e3 => old k hk z hz e3.symm
  · rw [upf_ne _ _ _ _ e] at hy
    obtain ⟨a1, a2, a3, a4⟩ := u.ax j hj y hy
    refine ⟨a1, a2, a3, fun k hk e2 z hz => ?_⟩
    by_cases e3 : k = i
    · subst e3; rw [upf_at] at hz; cases hz; exact old j hj y hy
    · rw [upf_ne _ _ _ _ e3] at hz; exact a4 k hk e2 z hz
theorem mx_take (h : Mx A nv nb hd ow l s own st loc ac B H w) (hi : i < 4) (hx : ac i = none) : Calls Try.prog 12 #[.pointer (some ⟨A.p, 0, none⟩), .int .i64 (i : Int)] w fun e w' => ∃ a, e = .returned (.pointer (some ⟨a, 0, none⟩)) ∧ w.heap.size ≤ a ∧ Below w.heap.size w w' ∧ Mx A nv nb hd ow l s own st loc (upf ac i (some ⟨a, false, 1, -1, 0, 0⟩)) B H w' := by
  refine (take_any (i : Int) (by omega) (by rw [h.k4]; omega) h.po).mono ?_
  rintro e w' ⟨a, rfl, h1, h2, h3⟩
  exact ⟨a, rfl, h1, h3, h.lay hi hx h3 h1 h2 (h.px.begin hi hx _ ⟨rfl, rfl⟩)⟩
theorem mx_give {m : Nat} (h : Mx A nv nb hd ow l s own st loc ac B H w) (hi : i < 4) (hx : ac i = none) (hm : m < A.n) (hl : loc m = .hold i) : Calls Try.prog 13 #[.pointer (some ⟨A.p, 0, none⟩), .int .i64 (i : Int), .int .i64 (m : Int)] w fun e w' => ∃ a, e = .returned (.pointer (some ⟨a, 0, none⟩)) ∧ w.heap.size ≤ a ∧ Below w.heap.size w w' ∧ Mx A nv nb hd ow l s own st (upf loc m (.giv i)) (upf ac i (some ⟨a, true, 0, m, 0, 0⟩)) B H w' := by
  refine (give_any (i : Int) m (by omega) (by rw [h.k4]; omega) (by omega) (by omega) h.po).mono ?_
  rintro e w' ⟨a, rfl, h1, h2, h3⟩
  exact ⟨a, rfl, h1, h3, h.lay hi hx h3 h1 h2 (h.px.beging hi hx hm hl _ ⟨rfl, rfl, rfl⟩)⟩
theorem nodup_lt : ∀ (n : Nat) (l : List Nat), l.Nodup → (∀ m, m ∈ l → m < n) → l.length ≤ n
  | 0, l, _, hl => by
    cases l with
    | nil => simp
    | cons a l => exact absurd (hl a (by simp)) (by omega)
  | n + 1, l, h, hl => by
    have h1 := nodup_lt n (l.erase n) (h.erase n) (fun m hm => by
      have a := hl m (List.mem_of_mem_erase hm)
      have b : m ≠ n := fun e => by subst e; exact absurd hm (List.Nodup.not_mem_erase h)
      omega)
    have h2 : l.length ≤ (l.erase n).length + 1 := by
      rw [List.length_erase]
      split <;> omega
    omega
end
end Go.Proofs.Ytaihmkflhapjeaa

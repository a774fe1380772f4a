/-
  Several acts at once: where each slot is, and what each act knows of the top.
-/
import Derived.Test.YtaihmkflhapjeaaPoP
namespace Go.Proofs.Ytaihmkflhapjeaa
open Go.RowKit Go.MuLone
set_option linter.unusedVariables false
inductive Loc where
  | st
  | own (i : Nat)
  | hold (i : Nat)
  | giv (i : Nat)
  | hand (i : Nat)
structure Xa where
  a : Nat
  gv : Bool
  nx : Int
  sl : Int
  tp : Int
  bl : Int
/-- which version of the top -/
def ver (T : Int) : Int := T / 4294967296
/-- a top that was read: it is no newer one, and if it is as new it is the top -/
def vOk (tp T : Int) : Prop := 0 ≤ tp ∧ tp ≤ 4611686018427387903 ∧ ver tp ≤ ver T ∧ (ver tp = ver T → tp = T)
theorem vOk.refl {T : Int} (h0 : 0 ≤ T) (h1 : T ≤ 4611686018427387903) : vOk T T := ⟨h0, h1, Int.le_refl _, fun _ => rfl⟩
theorem vOk.up {tp T T' : Int} (h : vOk tp T) (hv : ver T < ver T') : vOk tp T' := ⟨h.1, h.2.1, by have := h.2.2.1; omega, fun e => by have := h.2.2.1; omega⟩
theorem vOk.ne {tp T T' : Int} (h : vOk tp T) (hv : ver T < ver T') : tp ≠ T' := fun e => by have := h.2.2.1; subst e; omega
theorem ver_upv (T x : Int) (h0 : 0 ≤ T) (h1 : ver T ≤ 1000000) : ver (upv T x) = ver T + 1 := by
  have hb := pl_bd x
  unfold ver at h1 ⊢
  unfold upv
  rw [pk_eq]
  omega
theorem upv_rng (T x : Int) (h0 : 0 ≤ T) (h1 : ver T ≤ 1000000) : 0 ≤ upv T x ∧ upv T x ≤ 4611686018427387903 := by
  have hb := pl_bd x
  unfold ver at h1
  unfold upv
  rw [pk_eq]
  omega
def XOk (n base : Nat) (l : List Int) (loc : Nat → Loc) (fl i : Nat) (x : Xa) : Prop :=
  (x.gv = false ∧ (x.nx = 1 ∨ ((x.nx = 2 ∨ x.nx = 3) ∧ ∃ m : Nat, x.sl = m ∧ m < n ∧ tpl x.tp = m ∧ vOk x.tp (nth l base) ∧ (x.nx = 3 → x.tp = nth l base → x.bl = nth l (base + 1 + m))))) ∨
  (x.gv = true ∧ ∃ m : Nat, x.sl = m ∧ m < n ∧ ((x.nx = 0 ∧ loc m = .giv i) ∨ (loc m = .hand i ∧ fl = 2 ∧ (x.nx = 1 ∨ ((x.nx = 2 ∨ x.nx = 3) ∧ vOk x.tp (nth l base) ∧ (x.nx = 3 → nth l (base + 1 + m) = tpl x.tp))))))
theorem XOk.mono {n base fl j : Nat} {l l' : List Int} {loc loc' : Nat → Loc} {x : Xa} (h : XOk n base l loc fl j x) (hloc : ∀ m, m < n → loc m = .giv j ∨ loc m = .hand j → loc' m = loc m)
    (hT : (nth l' base = nth l base ∧ ∀ m : Nat, m < n → tpl (nth l base) = m → nth l' (base + 1 + m) = nth l (base + 1 + m)) ∨ ver (nth l base) < ver (nth l' base))
    (hk : ∀ m, m < n → loc m = .hand j → nth l' (base + 1 + m) = nth l (base + 1 + m)) : XOk n base l' loc' fl j x := by
  have hv : ∀ tp, vOk tp (nth l base) → vOk tp (nth l' base) := fun tp h => by
    rcases hT with ⟨e, _⟩ | e
    · rw [e]; exact h
    · exact h.up e
  rcases h with ⟨h1, h2⟩ | ⟨h1, m, h2, h3, h4⟩
  · refine .inl ⟨h1, ?_⟩
    rcases h2 with h2 | ⟨h2, m, h3, h4, h5, h6, h7⟩
    · exact .inl h2
    · refine .inr ⟨h2, m, h3, h4, h5, hv _ h6, fun e1 e2 => ?_⟩
      rcases hT with ⟨e, hl⟩ | e
      · rw [e] at e2
        rw [hl m h4 (by rw [← e2]; exact h5)]
        exact h7 e1 e2
      · exact absurd e2 (h6.ne e)
  · refine .inr ⟨h1, m, h2, h3, ?_⟩
    rcases h4 with ⟨h4, h5⟩ | ⟨h4, h5, h6⟩
    · exact .inl ⟨h4, (hloc m h3 (.inl h5)).trans h5⟩
    · refine .inr ⟨(hloc m h3 (.inr h4)).trans h4, h5, ?_⟩
      rcases h6 with h6 | ⟨h6, h7, h8⟩
      · exact .inl h6
      · exact .inr ⟨h6, hv _ h7, fun e => by rw [hk m h3 h4]; exact h8 e⟩
structure Px (n base : Nat) (l : List Int) (hd : Nat → Bool) (s : Int) (own : Nat → List Nat) (st : List Nat) (loc : Nat → Loc) (ac : Nat → Option Xa) : Prop where
  len : base + 1 + n ≤ l.length
  n2 : n ≤ 4096
  hdl : ∀ m, m < n → (hd m = true ↔ ∃ i, loc m = .hold i ∨ loc m = .giv i)
  inst : ∀ m, m ∈ st ↔ m < n ∧ loc m = .st
  inow : ∀ i, i < 4 → ∀ m, m ∈ own i ↔ m < n ∧ loc m = .own i
  idx : ∀ m, m < n → ∀ i, loc m = .own i → i < 4
  snd : st.Nodup
  ond : ∀ i, i < 4 → (own i).Nodup
  o2 : ∀ i, i < 4 → (own i).length ≤ 2
  acs : ∀ i, i < 4 → ∀ x, ac i = some x → XOk n base l loc (own i).length i x
  cov : ∀ m, m < n → ∀ i, (loc m = .giv i ∨ loc m = .hand i) → i < 4 ∧ ∃ x, ac i = some x ∧ x.gv = true ∧ x.sl = m
  t0 : 0 ≤ nth l base
  t1 : nth l base ≤ 4611686018427387903
  vr : ver (nth l base) ≤ s
  sk : Stk l base n st (tpl (nth l base))
section
variable {n base i : Nat} {l l' : List Int} {hd hd' : Nat → Bool} {s s' : Int} {own own' : Nat → List Nat} {st st' : List Nat} {loc : Nat → Loc} {ac : Nat → Option Xa} {x : Xa}
/-- no slot changes its place -/
theorem Px.stay (h : Px n base l hd s own st loc ac) (hi : i < 4) (hx : ac i = some x) (x' : Option Xa) (hg : x.gv = true → ∃ y, x' = some y ∧ y.gv = true ∧ y.sl = x.sl) (hok : ∀ y, x' = some y → XOk n base l' loc (own i).length i y) (ho : ∀ j, j < 4 → j ≠ i → ∀ y, ac j = some y → XOk n base l' loc (own j).length j y)
    (len : base + 1 + n ≤ l'.length) (t0 : 0 ≤ nth l' base) (t1 : nth l' base ≤ 4611686018427387903) (vr : ver (nth l' base) ≤ s') (sk : Stk l' base n st (tpl (nth l' base))) : Px n base l' hd s' own st loc (upf ac i x') := by
  refine ⟨len, h.n2, h.hdl, h.inst, h.inow, h.idx, h.snd, h.ond, h.o2, fun j hj y hy => ?_, fun m hm j hj => ?_, t0, t1, vr, sk⟩
  · by_cases e : j = i
    · subst e; rw [upf_at] at hy; exact hok y hy
    · rw [upf_ne _ _ _ _ e] at hy; exact ho j hj e y hy
  · obtain ⟨h1, y, h2, h3, h4⟩ := h.cov m hm j hj
    refine ⟨h1, ?_⟩
    by_cases e : j = i
    · subst e
      rw [hx] at h2
      cases h2
      obtain ⟨z, z1, z2, z3⟩ := hg h3
      exact ⟨z, by rw [upf_at]; exact z1, z2, z3.trans h4⟩
    · exact ⟨y, by rw [upf_ne _ _ _ _ e]; exact h2, h3, h4⟩
/-- slot m goes to place q -/
theorem Px.move (h : Px n base l hd s own st loc ac) (hi : i < 4) (hx : ac i = some x) (x' : Option Xa) (m : Nat) (hm : m < n) (q : Loc)
    (hhd : ∀ k, k ≠ m → hd' k = hd k) (hhdm : hd' m = true ↔ ∃ i, q = .hold i ∨ q = .giv i)
    (hst : ∀ k, k ≠ m → (k ∈ st' ↔ k ∈ st)) (hstm : m ∈ st' ↔ q = .st)
    (how : ∀ j, j < 4 → ∀ k, k ≠ m → (k ∈ own' j ↔ k ∈ own j)) (howm : ∀ j, j < 4 → (m ∈ own' j ↔ q = .own j)) (hqi : ∀ j, q = .own j → j < 4)
    (snd : st'.Nodup) (ond : ∀ j, j < 4 → (own' j).Nodup) (o2 : ∀ j, j < 4 → (own' j).length ≤ 2)
    (hok : ∀ y, x' = some y → XOk n base l' (upf loc m q) (own' i).length i y) (ho : ∀ j, j < 4 → j ≠ i → ∀ y, ac j = some y → XOk n base l' (upf loc m q) (own' j).length j y)
    (hc : ∀ j, q = .giv j ∨ q = .hand j → j = i ∧ ∃ y, x' = some y ∧ y.gv = true ∧ y.sl = m) (hc2 : x.gv = true → x.sl = m)
    (len : base + 1 + n ≤ l'.length) (t0 : 0 ≤ nth l' base) (t1 : nth l' base ≤ 4611686018427387903) (vr : ver (nth l' base) ≤ s') (sk : Stk l' base n st' (tpl (nth l' base))) : Px n base l' hd' s' own' st' (upf loc m q) (upf ac i x') := by
  refine ⟨len, h.n2, fun k hk => ?_, fun k => ?_, fun j hj k => ?_, fun k hk j hj => ?_, snd, ond, o2, fun j hj y hy => ?_, fun k hk j hj => ?_, t0, t1, vr, sk⟩
  · by_cases e : k = m
    · subst e; rw [upf_at]; exact hhdm
    · rw [upf_ne _ _ _ _ e, hhd k e]; exact h.hdl k hk
  · by_cases e : k = m
    · subst e; rw [upf_at, hstm]; simp [hm]
    · rw [upf_ne _ _ _ _ e, hst k e]; exact h.inst k
  · by_cases e : k = m
    · subst e; rw [upf_at, howm j hj]; simp [hm]
    · rw [upf_ne _ _ _ _ e, how j hj k e]; exact h.inow j hj k
  · by_cases e : k = m
    · subst e; rw [upf_at] at hj; exact hqi j hj
    · rw [upf_ne _ _ _ _ e] at hj; exact h.idx k hk j hj
  · by_cases e : j = i
    · subst e; rw [upf_at] at hy; exact hok y hy
    · rw [upf_ne _ _ _ _ e] at hy; exact ho j hj e y hy
  · by_cases e : k = m
    · subst e
      rw [upf_at] at hj
      obtain ⟨rfl, y, y1, y2, y3⟩ := hc j hj
      exact ⟨hi, y, by rw [upf_at]; exact y1, y2, y3⟩
    · rw [upf_ne _ _ _ _ e] at hj
      obtain ⟨h1, y, h2, h3, h4⟩ := h.cov k hk j hj
      refine ⟨h1, y, ?_, h3, h4⟩
      rw [upf_ne]
      · exact h2
      · intro e2
        subst e2
        rw [hx] at h2
        cases h2
        have := hc2 h3
        omega
end
end Go.Proofs.Ytaihmkflhapjeaa

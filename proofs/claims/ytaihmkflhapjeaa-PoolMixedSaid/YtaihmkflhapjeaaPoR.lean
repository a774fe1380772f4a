/-
  Several acts at once: each step that an act may make.
-/
import Derived.Test.YtaihmkflhapjeaaPoQ
namespace Go.Proofs.Ytaihmkflhapjeaa
open Go.RowKit Go.MuLone
set_option linter.unusedVariables false
section
variable {n base i m : Nat} {l : List Int} {hd : Nat → Bool} {s s' : Int} {own : Nat → List Nat} {st r : List Nat} {loc : Nat → Loc} {ac : Nat → Option Xa} {x : Xa}
theorem Px.oth (h : Px n base l hd s own st loc ac) {own' : Nat → List Nat} {loc' : Nat → Loc} {l' : List Int} (how : ∀ j, j ≠ i → own' j = own j)
    (hloc : ∀ m j, m < n → j ≠ i → loc m = .giv j ∨ loc m = .hand j → loc' m = loc m)
    (hT : (nth l' base = nth l base ∧ ∀ m : Nat, m < n → tpl (nth l base) = m → nth l' (base + 1 + m) = nth l (base + 1 + m)) ∨ ver (nth l base) < ver (nth l' base))
    (hk : ∀ m j, m < n → j ≠ i → loc m = .hand j → nth l' (base + 1 + m) = nth l (base + 1 + m)) : ∀ j, j < 4 → j ≠ i → ∀ y, ac j = some y → XOk n base l' loc' (own' j).length j y := fun j hj hne y hy => by
  rw [how j hne]
  exact (h.acs j hj y hy).mono (fun m hm hl => hloc m j hm hne hl) hT (fun m hm hl => hk m j hm hne hl)
/-- nothing of the memory has turned -/
theorem Px.oth0 (h : Px n base l hd s own st loc ac) {own' : Nat → List Nat} {loc' : Nat → Loc} (how : ∀ j, j ≠ i → own' j = own j) (hloc : ∀ m j, m < n → j ≠ i → loc m = .giv j ∨ loc m = .hand j → loc' m = loc m) : ∀ j, j < 4 → j ≠ i → ∀ y, ac j = some y → XOk n base l loc' (own' j).length j y :=
  h.oth how hloc (.inl ⟨rfl, fun _ _ _ => rfl⟩) (fun _ _ _ _ _ => rfl)
theorem px_own (h : Px n base l hd s own st loc ac) (hi : i < 4) (hx : ac i = some x) (hg : x.gv = false) (ho : own i = m :: r) : m < n ∧ loc m = .own i ∧ Px n base l (upf hd m true) s (upf own i r) st (upf loc m (.hold i)) (upf ac i none) := by
  have hm := (h.inow i hi m).mp (by rw [ho]; simp)
  have nd := h.ond i hi
  rw [ho] at nd
  obtain ⟨nd1, nd2⟩ := List.nodup_cons.mp nd
  have o2 := h.o2 i hi
  rw [ho] at o2
  refine ⟨hm.1, hm.2, h.move hi hx none m hm.1 (.hold i) (fun k e => upf_ne _ _ _ _ e) (by rw [upf_at]; simp) (fun k e => Iff.rfl) ?_ (fun j hj k e => ?_) (fun j hj => ?_) (fun j e => by cases e) h.snd (fun j hj => ?_) (fun j hj => ?_) (fun y hy => by cases hy) (h.oth0 (fun j e => upf_ne _ _ _ _ e) (fun k j hk e hl => upf_ne _ _ _ _ (fun e2 => by subst e2; rw [hm.2] at hl; rcases hl with hl | hl <;> cases hl))) (fun j e => by rcases e with e | e <;> cases e) (fun e => by rw [hg] at e; cases e) h.len h.t0 h.t1 h.vr h.sk⟩
  · rw [h.inst]; simp [hm.2]
  · by_cases e2 : j = i
    · subst e2; rw [upf_at, ho]; simp [e]
    · rw [upf_ne _ _ _ _ e2]
  · by_cases e2 : j = i
    · subst e2; rw [upf_at]; simp [nd1]
    · rw [upf_ne _ _ _ _ e2, h.inow j hj]
      simp [hm.2]
      intro _ e; exact e2 e.symm
  · by_cases e2 : j = i
    · subst e2; rw [upf_at]; exact nd2
    · rw [upf_ne _ _ _ _ e2]; exact h.ond j hj
  · by_cases e2 : j = i
    · subst e2; rw [upf_at]; simp at o2; omega
    · rw [upf_ne _ _ _ _ e2]; exact h.o2 j hj
/-- a Take that finds nothing on the stack -/
theorem px_none (h : Px n base l hd s own st loc ac) (hi : i < 4) (hx : ac i = some x) (hg : x.gv = false) (hs : s ≤ s') : Px n base l hd s' own st loc (upf ac i none) :=
  h.stay hi hx none (fun e => by rw [hg] at e; cases e) (fun y hy => by cases hy) (h.oth0 (fun _ _ => rfl) (fun _ _ _ _ _ => rfl)) h.len h.t0 h.t1 (by have := h.vr; omega) h.sk
/-- a Take that read the top -/
theorem px_top (h : Px n base l hd s own st loc ac) (hi : i < 4) (hx : ac i = some x) (hg : x.gv = false) (hs : s ≤ s') (hm : tpl (nth l base) = m) (hmn : m < n) (y : Xa) (hy : y.gv = false ∧ y.nx = 2 ∧ y.sl = m ∧ y.tp = nth l base) : Px n base l hd s' own st loc (upf ac i (some y)) :=
  h.stay hi hx (some y) (fun e => by rw [hg] at e; cases e) (fun z hz => by
    cases hz
    exact .inl ⟨hy.1, .inr ⟨.inl hy.2.1, m, hy.2.2.1, hmn, by rw [hy.2.2.2]; exact hm, by rw [hy.2.2.2]; exact vOk.refl h.t0 h.t1, fun e => by rw [hy.2.1] at e; omega⟩⟩) (h.oth0 (fun _ _ => rfl) (fun _ _ _ _ _ => rfl)) h.len h.t0 h.t1 (by have := h.vr; omega) h.sk
/-- a Take that read what is below -/
theorem px_link (h : Px n base l hd s own st loc ac) (hi : i < 4) (hx : ac i = some x) (hg : x.gv = false) (hs : s ≤ s') (hn : x.nx = 2) : ∃ m : Nat, x.sl = m ∧ m < n ∧ ∀ y : Xa, y.gv = false → y.nx = 3 → y.sl = x.sl → y.tp = x.tp → y.bl = nth l (base + 1 + m) → Px n base l hd s' own st loc (upf ac i (some y)) := by
  rcases h.acs i hi x hx with ⟨_, h2⟩ | ⟨h1, _⟩
  · rcases h2 with h2 | ⟨_, m, h3, h4, h5, h6, _⟩
    · omega
    · refine ⟨m, h3, h4, fun y y1 y2 y3 y4 y5 => ?_⟩
      exact h.stay hi hx (some y) (fun e => by rw [hg] at e; cases e) (fun z hz => by
        cases hz
        exact .inl ⟨y1, .inr ⟨.inr y2, m, by rw [y3]; exact h3, h4, by rw [y4]; exact h5, by rw [y4]; exact h6, fun _ _ => y5⟩⟩) (h.oth0 (fun _ _ => rfl) (fun _ _ _ _ _ => rfl)) h.len h.t0 h.t1 (by have := h.vr; omega) h.sk
  · rw [hg] at h1; cases h1
/-- an act whose swap failed -/
theorem px_fail (h : Px n base l hd s own st loc ac) (hi : i < 4) (hx : ac i = some x) (hs : s ≤ s') (hn : x.nx = 3) (y : Xa) (hy : y.gv = x.gv ∧ y.nx = 1 ∧ y.sl = x.sl) : Px n base l hd s' own st loc (upf ac i (some y)) := by
  have hx' := h.acs i hi x hx
  refine h.stay hi hx (some y) (fun e => ⟨y, rfl, by rw [hy.1]; exact e, hy.2.2⟩) (fun z hz => ?_) (h.oth0 (fun _ _ => rfl) (fun _ _ _ _ _ => rfl)) h.len h.t0 h.t1 (by have := h.vr; omega) h.sk
  cases hz
  rcases hx' with ⟨h1, _⟩ | ⟨h1, m, h2, h3, h4⟩
  · exact .inl ⟨by rw [hy.1]; exact h1, .inl hy.2.1⟩
  · rcases h4 with ⟨h4, _⟩ | ⟨h4, h5, _⟩
    · omega
    · exact .inr ⟨by rw [hy.1]; exact h1, m, by rw [hy.2.2]; exact h2, h3, .inr ⟨h4, h5, .inl hy.2.1⟩⟩
theorem set_link (h : base + 1 + n ≤ l.length) (y : Int) (k : Nat) : nth (l.set base y) (base + 1 + k) = nth l (base + 1 + k) := by
  rw [nth_set _ _ _ _ (by omega), if_neg (by omega)]
theorem set_top (h : base + 1 + n ≤ l.length) (y : Int) : nth (l.set base y) base = y := by
  rw [nth_set _ _ _ _ (by omega), if_pos rfl]
/-- a Take whose swap was done -/
theorem px_take (h : Px n base l hd s own st loc ac) (hi : i < 4) (hx : ac i = some x) (hg : x.gv = false) (hs : s ≤ 900000) (hn : x.nx = 3) (he : nth l base = x.tp) : ∃ (m : Nat) (r : List Nat), x.sl = m ∧ m < n ∧ st = m :: r ∧ loc m = .st ∧ Px n base (l.set base (upv x.tp x.bl)) (upf hd m true) (s + 1) own r (upf loc m (.hold i)) (upf ac i none) := by
  rcases h.acs i hi x hx with ⟨_, h2⟩ | ⟨h1, _⟩
  · rcases h2 with h2 | ⟨_, m, h3, h4, h5, h6, h7⟩
    · omega
    · have hb := h7 hn he.symm
      have sk := h.sk
      rw [he, h5] at sk
      cases st with
      | nil => rcases sk with e | e <;> omega
      | cons m' r =>
        obtain ⟨k1, k2, k3⟩ := sk
        obtain rfl : m = m' := by omega
        have hm := (h.inst m).mp (by simp)
        obtain ⟨nd1, nd2⟩ := List.nodup_cons.mp h.snd
        have t0 := h.t0
        have vr := h.vr
        have vu := ver_upv (nth l base) x.bl t0 (by omega)
        have ru := upv_rng (nth l base) x.bl t0 (by omega)
        rw [← he]
        refine ⟨m, r, h3, h4, rfl, hm.2, h.move hi hx none m h4 (.hold i) (fun k e => upf_ne _ _ _ _ e) (by rw [upf_at]; simp) (fun k e => by simp [e]) (by simp [nd1]) (fun j hj k e => Iff.rfl) (fun j hj => ?_) (fun j e => by cases e) nd2 h.ond h.o2 (fun y hy => by cases hy) ?_ (fun j e => by rcases e with e | e <;> cases e) (fun e => by rw [hg] at e; cases e) (by simpa using h.len) (by rw [set_top h.len]; exact ru.1) (by rw [set_top h.len]; exact ru.2) (by rw [set_top h.len]; omega) ?_⟩
        · rw [h.inow j hj]; simp [hm.2]
        · refine h.oth (fun _ _ => rfl) (fun k j hk e hl => upf_ne _ _ _ _ (fun e2 => by subst e2; rw [hm.2] at hl; rcases hl with hl | hl <;> cases hl)) (.inr ?_) (fun k j hk e hl => set_link h.len _ k)
          rw [set_top h.len]; omega
        · rw [set_top h.len]
          refine stk_set l base n base _ h.len r _ (fun k _ => by omega) ?_
          rw [hb]
          exact stk_top l base n _ h.n2 r _ k3
  · rw [hg] at h1; cases h1
end
end Go.Proofs.Ytaihmkflhapjeaa

/-
  Several acts at once: each step that a Give may make.
-/
import Derived.Test.YtaihmkflhapjeaaPoR
namespace Go.Proofs.Ytaihmkflhapjeaa
open Go.RowKit Go.MuLone
set_option linter.unusedVariables false
section
variable {n base i m : Nat} {l : List Int} {hd : Nat → Bool} {s s' : Int} {own : Nat → List Nat} {st r : List Nat} {loc : Nat → Loc} {ac : Nat → Option Xa} {x : Xa}
theorem px_slot (h : Px n base l hd s own st loc ac) (hi : i < 4) (hx : ac i = some x) (hg : x.gv = true) : ∃ m : Nat, x.sl = m ∧ m < n := by
  rcases h.acs i hi x hx with ⟨h1, _⟩ | ⟨_, m, h2, h3, _⟩
  · rw [hg] at h1; cases h1
  · exact ⟨m, h2, h3⟩
/-- a Give to one's own list -/
theorem px_give (h : Px n base l hd s own st loc ac) (hi : i < 4) (hx : ac i = some x) (hg : x.gv = true) (hn : x.nx = 0) (hm : x.sl = (m : Int)) (ho : (own i).length < 2) : m < n ∧ loc m = .giv i ∧ hd m = true ∧ Px n base l (upf hd m false) s (upf own i (m :: own i)) st (upf loc m (.own i)) (upf ac i none) := by
  rcases h.acs i hi x hx with ⟨h1, _⟩ | ⟨_, m', h2, h3, h4⟩
  · rw [hg] at h1; cases h1
  · obtain rfl : m = m' := by omega
    have hl : loc m = .giv i := by
      rcases h4 with ⟨_, h4⟩ | ⟨h4, h5, h6⟩
      · exact h4
      · rcases h6 with h6 | ⟨h6 | h6, _⟩ <;> omega
    have hno : m ∉ own i := fun hm => by have := ((h.inow i hi m).mp hm).2; rw [hl] at this; cases this
    refine ⟨h3, hl, (h.hdl m h3).mpr ⟨i, .inr hl⟩, h.move hi hx none m h3 (.own i) (fun k e => upf_ne _ _ _ _ e) (by rw [upf_at]; simp) (fun k e => Iff.rfl) ?_ (fun j hj k e => ?_) (fun j hj => ?_) (fun j e => by cases e; exact hi) h.snd (fun j hj => ?_) (fun j hj => ?_) (fun y hy => by cases hy) (h.oth0 (fun j e => upf_ne _ _ _ _ e) (fun k j hk e hl2 => upf_ne _ _ _ _ (fun e2 => by subst e2; rw [hl] at hl2; rcases hl2 with hl2 | hl2 <;> cases hl2; exact e rfl))) (fun j e => by rcases e with e | e <;> cases e) (fun _ => hm) h.len h.t0 h.t1 h.vr h.sk⟩
    · rw [h.inst]; simp [hl]
    · by_cases e2 : j = i
      · subst e2; rw [upf_at]; simp [e]
      · rw [upf_ne _ _ _ _ e2]
    · by_cases e2 : j = i
      · subst e2; rw [upf_at]; simp
      · rw [upf_ne _ _ _ _ e2, h.inow j hj]
        simp [hl]
        intro e; exact e2 e.symm
    · by_cases e2 : j = i
      · subst e2; rw [upf_at]; exact List.nodup_cons.mpr ⟨hno, h.ond j hj⟩
      · rw [upf_ne _ _ _ _ e2]; exact h.ond j hj
    · by_cases e2 : j = i
      · subst e2; rw [upf_at]; simp; omega
      · rw [upf_ne _ _ _ _ e2]; exact h.o2 j hj
/-- a Give for whose slot there is no room in the own list: it reads the top -/
theorem px_full (h : Px n base l hd s own st loc ac) (hi : i < 4) (hx : ac i = some x) (hg : x.gv = true) (hn : x.nx = 0) (hm : x.sl = (m : Int)) (ho : ¬ (own i).length < 2) (hs : s ≤ s') (y : Xa) (hy : y.gv = true ∧ y.nx = 2 ∧ y.sl = x.sl ∧ y.tp = nth l base) : m < n ∧ hd m = true ∧ Px n base l (upf hd m false) s' own st (upf loc m (.hand i)) (upf ac i (some y)) := by
  rcases h.acs i hi x hx with ⟨h1, _⟩ | ⟨_, m', h2, h3, h4⟩
  · rw [hg] at h1; cases h1
  · obtain rfl : m = m' := by omega
    have hl : loc m = .giv i := by
      rcases h4 with ⟨_, h4⟩ | ⟨h4, h5, h6⟩
      · exact h4
      · rcases h6 with h6 | ⟨h6 | h6, _⟩ <;> omega
    have o2 := h.o2 i hi
    refine ⟨h3, (h.hdl m h3).mpr ⟨i, .inr hl⟩, h.move hi hx (some y) m h3 (.hand i) (fun k e => upf_ne _ _ _ _ e) (by rw [upf_at]; simp) (fun k e => Iff.rfl) ?_ (fun j hj k e => Iff.rfl) (fun j hj => ?_) (fun j e => by cases e) h.snd h.ond h.o2 (fun z hz => ?_) (h.oth0 (fun j e => rfl) (fun k j hk e hl2 => upf_ne _ _ _ _ (fun e2 => by subst e2; rw [hl] at hl2; rcases hl2 with hl2 | hl2 <;> cases hl2; exact e rfl))) (fun j e => ?_) (fun _ => hm) h.len h.t0 h.t1 (by have := h.vr; omega) h.sk⟩
    · rw [h.inst]; simp [hl]
    · rw [h.inow j hj]; simp [hl]
    · cases hz
      exact .inr ⟨hy.1, m, by rw [hy.2.2.1]; exact hm, h3, .inr ⟨upf_at _ _ _, by omega, .inr ⟨.inl hy.2.1, by rw [hy.2.2.2]; exact vOk.refl h.t0 h.t1, fun e => by rw [hy.2.1] at e; omega⟩⟩⟩
    · rcases e with e | e
      · cases e
      · cases e; exact ⟨rfl, y, rfl, hy.1, by rw [hy.2.2.1]; exact hm⟩
/-- a Give that looks again -/
theorem px_look (h : Px n base l hd s own st loc ac) (hi : i < 4) (hx : ac i = some x) (hg : x.gv = true) (hn : x.nx = 1) (hs : s ≤ s') : (own i).length = 2 ∧ ∀ y : Xa, y.gv = true → y.nx = 2 → y.sl = x.sl → y.tp = nth l base → Px n base l hd s' own st loc (upf ac i (some y)) := by
  rcases h.acs i hi x hx with ⟨h1, _⟩ | ⟨_, m, h2, h3, h4⟩
  · rw [hg] at h1; cases h1
  · rcases h4 with ⟨h4, _⟩ | ⟨h4, h5, h6⟩
    · omega
    · refine ⟨h5, fun y y1 y2 y3 y4 => ?_⟩
      exact h.stay hi hx (some y) (fun _ => ⟨y, rfl, y1, y3⟩) (fun z hz => by
        cases hz
        exact .inr ⟨y1, m, by rw [y3]; exact h2, h3, .inr ⟨h4, h5, .inr ⟨.inl y2, by rw [y4]; exact vOk.refl h.t0 h.t1, fun e => by rw [y2] at e; omega⟩⟩⟩) (h.oth0 (fun _ _ => rfl) (fun _ _ _ _ _ => rfl)) h.len h.t0 h.t1 (by have := h.vr; omega) h.sk
theorem set_lk {k : Nat} (h : base + 1 + n ≤ l.length) (hm : m < n) (y : Int) : nth (l.set (base + 1 + m) y) (base + 1 + k) = if m = k then y else nth l (base + 1 + k) := by
  rw [nth_set _ _ _ _ (by omega)]
  by_cases e : m = k
  · rw [if_pos (by omega), if_pos e]
  · rw [if_neg (by omega), if_neg e]
theorem set_lk0 (h : base + 1 + n ≤ l.length) (hm : m < n) (y : Int) : nth (l.set (base + 1 + m) y) base = nth l base := by
  rw [nth_set _ _ _ _ (by omega), if_neg (by omega)]
theorem stk_head {x : Int} (h : Stk l base n st x) (k : Nat) (hk : k < n) (e : x = k) : k ∈ st := by
  cases st with
  | nil => rcases h with h | h <;> omega
  | cons m r => obtain ⟨h1, _, _⟩ := h; have e2 : k = m := (by omega); rw [e2]; simp
/-- a Give that writes what is to be below its slot -/
theorem px_glink (h : Px n base l hd s own st loc ac) (hi : i < 4) (hx : ac i = some x) (hg : x.gv = true) (hn : x.nx = 2) (hm : x.sl = (m : Int)) (hs : s ≤ s') : m < n ∧ vOk x.tp (nth l base) ∧ ∀ y : Xa, y.gv = true → y.nx = 3 → y.sl = x.sl → y.tp = x.tp → Px n base (l.set (base + 1 + m) (tpl x.tp)) hd s' own st loc (upf ac i (some y)) := by
  rcases h.acs i hi x hx with ⟨h1, _⟩ | ⟨_, m', h2, h3, h4⟩
  · rw [hg] at h1; cases h1
  · obtain rfl : m = m' := by omega
    rcases h4 with ⟨h4, _⟩ | ⟨h4, h5, h6⟩
    · omega
    · rcases h6 with h6 | ⟨h6, h7, _⟩
      · omega
      · have hns : m ∉ st := fun hm => by have := ((h.inst m).mp hm).2; rw [h4] at this; cases this
        refine ⟨h3, h7, fun y y1 y2 y3 y4 => ?_⟩
        refine h.stay hi hx (some y) (fun _ => ⟨y, rfl, y1, y3⟩) (fun z hz => ?_) (h.oth (fun _ _ => rfl) (fun _ _ _ _ _ => rfl) (.inl ⟨set_lk0 h.len h3 _, fun k hk e => ?_⟩) (fun k j hk e hl => ?_)) (by simpa using h.len) (by rw [set_lk0 h.len h3]; exact h.t0) (by rw [set_lk0 h.len h3]; exact h.t1) (by rw [set_lk0 h.len h3]; have := h.vr; omega) ?_
        · cases hz
          exact .inr ⟨y1, m, by rw [y3]; exact h2, h3, .inr ⟨h4, h5, .inr ⟨.inr y2, by rw [y4, set_lk0 h.len h3]; exact h7, fun _ => by rw [set_lk h.len h3, if_pos rfl, y4]⟩⟩⟩
        · rw [set_lk h.len h3, if_neg]
          intro e2
          subst e2
          exact hns (stk_head h.sk m h3 e)
        · rw [set_lk h.len h3, if_neg]
          intro e2
          subst e2
          rw [h4] at hl
          cases hl
          exact e rfl
        · rw [set_lk0 h.len h3]
          exact stk_set l base n (base + 1 + m) _ h.len st _ (fun k hk e => by
            have : k = m := by omega
            subst this
            exact hns hk) h.sk
/-- a Give whose swap was done -/
theorem px_put (h : Px n base l hd s own st loc ac) (hi : i < 4) (hx : ac i = some x) (hg : x.gv = true) (hs : s ≤ 900000) (hn : x.nx = 3) (hm : x.sl = (m : Int)) (he : nth l base = x.tp) : m < n ∧ Px n base (l.set base (upv x.tp x.sl)) hd (s + 1) own (m :: st) (upf loc m .st) (upf ac i none) := by
  rcases h.acs i hi x hx with ⟨h1, _⟩ | ⟨_, m', h2, h3, h4⟩
  · rw [hg] at h1; cases h1
  · obtain rfl : m = m' := by omega
    rcases h4 with ⟨h4, _⟩ | ⟨h4, h5, h6⟩
    · omega
    · rcases h6 with h6 | ⟨h6, h7, h8⟩
      · omega
      · have hns : m ∉ st := fun hm => by have := ((h.inst m).mp hm).2; rw [h4] at this; cases this
        have hlk := h8 hn
        have t0 := h.t0
        have vr := h.vr
        have vu := ver_upv (nth l base) m t0 (by omega)
        have ru := upv_rng (nth l base) m t0 (by omega)
        have hdf : hd m = false := by
          cases e : hd m
          · rfl
          · obtain ⟨j, e | e⟩ := (h.hdl m h3).mp e <;> · rw [h4] at e; cases e
        have n2 := h.n2
        rw [hm, ← he]
        refine ⟨h3, h.move hi hx none m h3 .st (fun k e => rfl) (by rw [hdf]; simp) (fun k e => by simp [e]) (by simp) (fun j hj k e => Iff.rfl) (fun j hj => ?_) (fun j e => by cases e) (List.nodup_cons.mpr ⟨hns, h.snd⟩) h.ond h.o2 (fun y hy => by cases hy) ?_ (fun j e => by rcases e with e | e <;> cases e) (fun _ => hm) (by simpa using h.len) (by rw [set_top h.len]; exact ru.1) (by rw [set_top h.len]; exact ru.2) (by rw [set_top h.len]; omega) ?_⟩
        · rw [h.inow j hj]; simp [h4]
        · refine h.oth (fun _ _ => rfl) (fun k j hk e hl => upf_ne _ _ _ _ (fun e2 => by subst e2; rw [h4] at hl; rcases hl with hl | hl <;> cases hl; exact e rfl)) (.inr ?_) (fun k j hk e hl => set_link h.len _ k)
          rw [set_top h.len]; omega
        · rw [set_top h.len, tpl_pl, pl_in (m : Int) (by omega)]
          refine ⟨rfl, h3, ?_⟩
          rw [set_link h.len, hlk, ← he]
          exact stk_set l base n base _ h.len st _ (fun k _ => by omega) h.sk
end
end Go.Proofs.Ytaihmkflhapjeaa

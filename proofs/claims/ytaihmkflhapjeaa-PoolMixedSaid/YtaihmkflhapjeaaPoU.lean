/-
  Several acts at once: one Step of any of them.
-/
import Derived.Test.YtaihmkflhapjeaaPoT
namespace Go.Proofs.Ytaihmkflhapjeaa
open Go.RowKit Go.MuLone
set_option linter.unusedVariables false
def Free : Loc → Prop
  | .st => True
  | .own _ => True
  | _ => False
/-- so many Steps at most, if nobody else makes one -/
def mu (T : Int) (x : Xa) : Nat := if x.nx = 0 then 4 else if x.nx = 1 then 3 else if x.nx = 2 then (if x.tp = T then 2 else 5) else (if x.tp = T then 1 else 4)
theorem mu_le (T : Int) (x : Xa) : 1 ≤ mu T x ∧ mu T x ≤ 5 := by
  unfold mu
  split
  · omega
  · split
    · omega
    · split
      · split <;> omega
      · split <;> omega
def StepP (A : Ad) (nv : Nat → Value) (nb : Nat → Int) (l : List Int) (s : Int) (loc : Nat → Loc) (ac : Nat → Option Xa) (B : Nat) (H : List Nat) (i : Nat) (x : Xa) (w : World) (e : Ending) (w' : World) : Prop :=
  ∃ r hd' ow' l' s' own' st' loc' x', e = .returned (.bool r) ∧ Mx A nv nb hd' ow' l' s' own' st' loc' (upf ac i x') B H w' ∧ Fr B H w w' ∧ s ≤ s' ∧ s' ≤ s + 1 ∧
    ((r = false ∧ ∃ y, x' = some y ∧ y.a = x.a ∧ y.gv = x.gv ∧ (y.gv = true → y.sl = x.sl) ∧ (∀ m, m < A.n → (Free (loc' m) ↔ Free (loc m))) ∧ (∀ m j, loc' m = .hold j ↔ loc m = .hold j) ∧ mu (nth l' A.base) y < mu (nth l A.base) x) ∨
     (r = true ∧ x' = none ∧ ∃ sl tp bl, Ac x.a A (i : Int) x.gv 4 sl tp bl w' ∧
       ((x.gv = true ∧ sl = x.sl ∧ ∃ (m : Nat) (q : Loc), x.sl = m ∧ m < A.n ∧ (loc m = .giv i ∨ loc m = .hand i) ∧ Free q ∧ loc' = upf loc m q) ∨
        (x.gv = false ∧ sl = -1 ∧ st' = [] ∧ own' i = [] ∧ loc' = loc) ∨
        (x.gv = false ∧ ∃ m : Nat, sl = m ∧ m < A.n ∧ Free (loc m) ∧ loc' = upf loc m (.hold i)))))
section
variable {A : Ad} {nv : Nat → Value} {nb : Nat → Int} {hd : Nat → Bool} {ow : Nat → Value} {l : List Int} {s : Int} {own : Nat → List Nat} {st : List Nat} {loc : Nat → Loc} {ac : Nat → Option Xa} {B i : Nat} {H : List Nat} {w w1 : World} {a : Nat} {nx sl tp bl : Int}
theorem ol_upf {v : Value} {r : List Nat} (h : Ol B v (ints r) w) : Ol B (upf ow i v i) (ints (upf own i r i)) w := by rw [upf_at, upf_at]; exact h
theorem mx_ol {gv : Bool} {v : Value} {r : List Int} (h : Mx A nv nb hd ow l s own st loc ac B H w) (hi : i < 4) (ha : Ac a A (i : Int) gv nx sl tp bl w) (tw : Tw (A.g :: A.b :: A.bh :: A.bo :: a :: []) w w1) (q1 : Ol B v r w) (q2 : ∀ b, b ∈ vblk v → b ∈ vblk (ow i)) : Ol B v r w1 :=
  q1.keep tw (fun b hb hv => by
    have hb2 := q2 b hv
    obtain ⟨⟨o1, o2, o3, o4, o5, o6⟩, _⟩ := h.oa i hi b hb2
    obtain ⟨_, cur, hc⟩ := (h.ol i hi).blk b hb2
    simp at hb
    rcases hb with c | c | c | c | c
    · exact o2 c
    · exact o3 c
    · exact o5 c
    · exact o6 c
    · subst c; exact absurd rfl (blk_ty hc ha (by decide)))
theorem mx_take1 (h : Mx A nv nb hd ow l s own st loc ac B H w) (hi : i < 4) (hx : ac i = some ⟨a, false, 1, sl, tp, bl⟩) (hs : s ≤ 80000) :
    Calls Try.prog 17 #[.pointer (some ⟨a, 0, none⟩)] w (StepP A nv nb l s loc ac B H i ⟨a, false, 1, sl, tp, bl⟩ w) := by
  obtain ⟨ha, hBa, hHa, hne⟩ := h.ax i hi _ hx
  have s0 := h.s0
  have hk : i < A.k := by rw [h.k4]; exact hi
  have ol := h.ol i hi
  cases ho : own i with
  | cons m r =>
    obtain ⟨hm, hl, px'⟩ := px_own h.px hi hx rfl ho
    rw [ho, ints_cons] at ol
    refine (step_take true rfl ha (take_own (R := []) B i m m (ints r) rfl hm rfl hk h.po ha ol) (fun W hW => ?_)).mono ?_
    · obtain ⟨v', _, _, f⟩ := hW
      exact ⟨_, _, _, _, _, _, f.ac, rfl⟩
    · rintro e w' ⟨rfl, v', q1, q2, f⟩
      have hol : Ol B v' (ints r) w' := mx_ol h hi ha f.tw q1 q2
      obtain ⟨m1, m2⟩ := mx_go h hi hx f (by simp) (ol_upf hol) (fun j e => upf_ne _ _ _ _ e) (fun j e => upf_ne _ _ _ _ e) (fun b hb => by rw [upf_at] at hb; exact .inl (q2 b hb)) none (fun y hy => by cases hy) px' s0
      exact ⟨true, _, _, _, _, _, _, _, _, rfl, m1, m2, by omega, by omega, .inr ⟨rfl, rfl, _, _, _, f.ac, .inr (.inr ⟨rfl, m, rfl, hm, by rw [hl]; trivial, rfl⟩)⟩⟩
  | nil =>
    have ol0 : Ol B (ow i) [] w := by rw [ho] at ol; exact ol
    have t0 := h.px.t0
    have t1 := h.px.t1
    cases hst : st with
    | nil =>
      have sk := h.px.sk
      rw [hst] at sk
      refine (step_take true rfl ha (take_top (R := []) false B i (nth l A.base) rfl t0 t1 (.inr ⟨rfl, sk⟩) rfl hk s0 (by omega) h.po ha ol0) (fun W f => ⟨_, _, _, _, _, _, f.ac, rfl⟩)).mono ?_
      rintro e w' ⟨rfl, f⟩
      have px' := px_none (s' := s + 1) h.px hi hx rfl (by omega)
      have hol : Ol B (ow i) (ints (own i)) w' := mx_ol h hi ha f.tw (h.ol i hi) (fun _ h => h)
      obtain ⟨m1, m2⟩ := mx_go h hi hx f (by simp) hol (fun j e => rfl) (fun j e => rfl) (fun b hb => .inl hb) none (fun y hy => by cases hy) px' (by omega)
      exact ⟨true, _, _, _, _, _, _, _, _, rfl, m1, m2, by omega, by omega, .inr ⟨rfl, rfl, _, _, _, f.ac, .inr (.inl ⟨rfl, rfl, hst, ho, rfl⟩)⟩⟩
    | cons m r =>
      have sk := h.px.sk
      rw [hst] at sk
      obtain ⟨k1, k2, k3⟩ := sk
      refine (step_take false rfl ha (take_top (R := []) true B i (nth l A.base) rfl t0 t1 (.inl ⟨rfl, by omega, by omega⟩) rfl hk s0 (by omega) h.po ha ol0) (fun W f => ⟨_, _, _, _, _, _, f.ac, rfl⟩)).mono ?_
      rintro e w' ⟨rfl, f⟩
      have px' := px_top (s' := s + 1) h.px hi hx rfl (by omega) k1 k2 ⟨a, false, 2, tpl (nth l A.base), nth l A.base, bl⟩ ⟨rfl, rfl, k1, rfl⟩
      have hol : Ol B (ow i) (ints (own i)) w' := mx_ol h hi ha f.tw (h.ol i hi) (fun _ h => h)
      obtain ⟨m1, m2⟩ := mx_go h hi hx f (by simp) hol (fun j e => rfl) (fun j e => rfl) (fun b hb => .inl hb) (some ⟨a, false, 2, tpl (nth l A.base), nth l A.base, bl⟩) (fun y hy => by cases hy; rfl) px' (by omega)
      exact ⟨false, _, _, _, _, _, _, _, _, rfl, m1, m2, by omega, by omega, .inl ⟨rfl, _, rfl, rfl, rfl, (fun e => by cases e), fun _ _ => Iff.rfl, fun _ _ => Iff.rfl, by simp [mu]⟩⟩
/-- an act whose step changes no list -/
theorem mx_plain {gv : Bool} {nx' sl' tp' bl' : Int} {l' : List Int} {hd' : Nat → Bool} {loc' : Nat → Loc} {st' : List Nat} {s' : Int} (h : Mx A nv nb hd ow l s own st loc ac B H w) (hi : i < 4) (hx : ac i = some ⟨a, gv, nx, sl, tp, bl⟩) (f : Af a A nv nb hd' ow l' s' (i : Int) gv nx' sl' tp' bl' [] w w1) (x' : Option Xa) (hx' : ∀ y, x' = some y → y = ⟨a, gv, nx', sl', tp', bl'⟩) (px' : Px A.n A.base l' hd' s' own st' loc' (upf ac i x')) (hs' : 0 ≤ s') :
    Mx A nv nb hd' ow l' s' own st' loc' (upf ac i x') B H w1 ∧ Fr B H w w1 :=
  mx_go h hi hx f (by simp) (mx_ol h hi (h.ax i hi _ hx).1 f.tw (h.ol i hi) (fun _ h => h)) (fun j e => rfl) (fun j e => rfl) (fun b hb => .inl hb) x' hx' px' hs'
theorem mx_take2 (h : Mx A nv nb hd ow l s own st loc ac B H w) (hi : i < 4) (hx : ac i = some ⟨a, false, 2, sl, tp, bl⟩) (hs : s ≤ 80000) :
    Calls Try.prog 17 #[.pointer (some ⟨a, 0, none⟩)] w (StepP A nv nb l s loc ac B H i ⟨a, false, 2, sl, tp, bl⟩ w) := by
  obtain ⟨ha, hBa, hHa, hne⟩ := h.ax i hi _ hx
  have s0 := h.s0
  obtain ⟨m, hm, hmn, px⟩ := px_link (s' := s + 1) h.px hi hx rfl (by omega) rfl
  refine (step_take false rfl ha (take_link (R := []) m hm hmn s0 (by omega) h.po ha) (fun W f => ⟨_, _, _, _, _, _, f.ac, rfl⟩)).mono ?_
  rintro e w' ⟨rfl, f⟩
  obtain ⟨m1, m2⟩ := mx_plain h hi hx f (some ⟨a, false, 3, sl, tp, nth l (A.base + 1 + m)⟩) (fun y hy => by cases hy; rfl) (px _ rfl rfl rfl rfl rfl) (by omega)
  exact ⟨false, _, _, _, _, _, _, _, _, rfl, m1, m2, by omega, by omega, .inl ⟨rfl, _, rfl, rfl, rfl, (fun e => by cases e), fun _ _ => Iff.rfl, fun _ _ => Iff.rfl, by by_cases e : tp = nth l A.base <;> simp [mu, e]⟩⟩
theorem mx_take3 (h : Mx A nv nb hd ow l s own st loc ac B H w) (hi : i < 4) (hx : ac i = some ⟨a, false, 3, sl, tp, bl⟩) (hs : s ≤ 80000) :
    Calls Try.prog 17 #[.pointer (some ⟨a, 0, none⟩)] w (StepP A nv nb l s loc ac B H i ⟨a, false, 3, sl, tp, bl⟩ w) := by
  obtain ⟨ha, hBa, hHa, hne⟩ := h.ax i hi _ hx
  have s0 := h.s0
  have hx' := h.px.acs i hi _ hx
  have hv : ∃ m : Nat, sl = m ∧ m < A.n ∧ 0 ≤ tp ∧ tp ≤ 4611686018427387903 := by
    rcases hx' with ⟨_, h2⟩ | ⟨h1, _⟩
    · rcases h2 with h2 | ⟨_, m, h3, h4, _, h6, _⟩
      · cases h2
      · exact ⟨m, h3, h4, h6.1, h6.2.1⟩
    · cases h1
  obtain ⟨m, hm, hmn, v0, v1⟩ := hv
  by_cases he : nth l A.base = tp
  · obtain ⟨m', r, hm', _, hst, hl, px⟩ := px_take h.px hi hx rfl (by omega) rfl he
    obtain rfl : m = m' := by have := hm'; simp only at this; omega
    refine (step_take true rfl ha (take_swap (R := []) m true hm hmn (decide_eq_true he) v0 v1 s0 (by omega) h.po ha) (fun W f => ⟨_, _, _, _, _, _, f.ac, rfl⟩)).mono ?_
    rintro e w' ⟨rfl, f⟩
    rw [swt_yes _ _ _ _ he] at f
    obtain ⟨m1, m2⟩ := mx_plain h hi hx f none (fun y hy => by cases hy) px (by omega)
    exact ⟨true, _, _, _, _, _, _, _, _, rfl, m1, m2, by omega, by omega, .inr ⟨rfl, rfl, _, _, _, f.ac, .inr (.inr ⟨rfl, m, hm, hmn, by rw [hl]; trivial, rfl⟩)⟩⟩
  · refine (step_take false rfl ha (take_swap (R := []) m false hm hmn (decide_eq_false he) v0 v1 s0 (by omega) h.po ha) (fun W f => ⟨_, _, _, _, _, _, f.ac, rfl⟩)).mono ?_
    rintro e w' ⟨rfl, f⟩
    rw [swt_no _ _ _ _ he] at f
    obtain ⟨m1, m2⟩ := mx_plain h hi hx f (some ⟨a, false, 1, sl, tp, bl⟩) (fun y hy => by cases hy; rfl) (px_fail (s' := s + 1) h.px hi hx (by omega) rfl _ ⟨rfl, rfl, rfl⟩) (by omega)
    exact ⟨false, _, _, _, _, _, _, _, _, rfl, m1, m2, by omega, by omega, .inl ⟨rfl, _, rfl, rfl, rfl, (fun e => by cases e), fun _ _ => Iff.rfl, fun _ _ => Iff.rfl, by have e : ¬ tp = nth l A.base := fun e => he e.symm; simp [mu, e]⟩⟩
theorem px_giv {m : Nat} (h : Mx A nv nb hd ow l s own st loc ac B H w) (hi : i < 4) (hx : ac i = some ⟨a, true, 0, sl, tp, bl⟩) (hm : sl = (m : Int)) : loc m = .giv i := by
  rcases h.px.acs i hi _ hx with ⟨h1, _⟩ | ⟨_, m', h2, h3, h4⟩
  · cases h1
  · obtain rfl : m = m' := by have h2 : sl = (m' : Int) := h2; omega
    rcases h4 with ⟨_, h4⟩ | ⟨_, _, h6⟩
    · exact h4
    · rcases h6 with h6 | ⟨h6 | h6, _⟩ <;> cases h6
theorem not_hold {q : Loc} {j : Nat} (h : q = .giv i ∨ q = .hand i) : q ≠ .hold j := fun e => by rw [e] at h; rcases h with h | h <;> cases h
theorem mx_give0 (h : Mx A nv nb hd ow l s own st loc ac B H w) (hi : i < 4) (hx : ac i = some ⟨a, true, 0, sl, tp, bl⟩) (hs : s ≤ 80000) :
    Calls Try.prog 17 #[.pointer (some ⟨a, 0, none⟩)] w (StepP A nv nb l s loc ac B H i ⟨a, true, 0, sl, tp, bl⟩ w) := by
  obtain ⟨ha, hBa, hHa, hne⟩ := h.ax i hi _ hx
  have s0 := h.s0
  have hk : i < A.k := by rw [h.k4]; exact hi
  have ol := h.ol i hi
  obtain ⟨m, hm, hmn⟩ := px_slot h.px hi hx rfl
  have hm : sl = m := hm
  by_cases hf : (own i).length < 2
  · obtain ⟨_, hl, hh, px⟩ := px_give h.px hi hx rfl rfl hm hf
    have hoa : ∀ b, b ∈ vblk (ow i) → b ≠ a ∧ b ≠ A.p ∧ b ≠ A.g ∧ b ≠ A.b ∧ b ≠ A.bn ∧ b ≠ A.bh ∧ b ≠ A.bo := fun b hb => by
      obtain ⟨o, _⟩ := h.oa i hi b hb
      obtain ⟨_, cur, hc⟩ := ol.blk b hb
      exact ⟨fun e => by subst e; exact absurd rfl (blk_ty hc ha (by decide)), o⟩
    refine (step_give true rfl ha (give_own B i m (ints (own i)) hm hmn hh (by rw [ints_len]; exact hf) h.hB rfl hk h.po ha ol hoa) (fun W hW => ?_)).mono ?_
    · obtain ⟨v', _, _, f⟩ := hW
      exact ⟨_, _, _, _, _, _, f.ac, rfl⟩
    · rintro e w' ⟨rfl, v', q1, q2, f⟩
      have hol : Ol B v' (ints (m :: own i)) w' := by rw [ints_cons, ← hm]; exact q1
      obtain ⟨m1, m2⟩ := mx_go h hi hx f (fun b hb => hb) (ol_upf hol) (fun j e => upf_ne _ _ _ _ e) (fun j e => upf_ne _ _ _ _ e) (fun b hb => by rw [upf_at] at hb; exact q2 b hb) none (fun y hy => by cases hy) px s0
      exact ⟨true, _, _, _, _, _, _, _, _, rfl, m1, m2, by omega, by omega, .inr ⟨rfl, rfl, _, _, _, f.ac, .inl ⟨rfl, rfl, m, .own i, hm, hmn, .inl hl, trivial, rfl⟩⟩⟩
  · obtain ⟨_, hh, px⟩ := px_full (s' := s + 1) h.px hi hx rfl rfl hm hf (by omega) ⟨a, true, 2, sl, nth l A.base, bl⟩ ⟨rfl, rfl, rfl, rfl⟩
    have hloc : loc m = .giv i := (px_giv h hi hx hm)
    refine (step_give false rfl ha (give_full (R := []) B i m (ints (own i)) hm hmn hh (by rw [ints_len]; omega) rfl hk s0 (by omega) h.po ha ol) (fun W f => ⟨_, _, _, _, _, _, f.ac, rfl⟩)).mono ?_
    rintro e w' ⟨rfl, f⟩
    obtain ⟨m1, m2⟩ := mx_plain h hi hx f (some ⟨a, true, 2, sl, nth l A.base, bl⟩) (fun y hy => by cases hy; rfl) px (by omega)
    refine ⟨false, _, _, _, _, _, _, _, _, rfl, m1, m2, by omega, by omega, .inl ⟨rfl, _, rfl, rfl, rfl, fun _ => rfl, fun k hk => ?_, fun k j => ?_, by simp [mu]⟩⟩
    · by_cases e : k = m
      · subst e; rw [upf_at, hloc]; exact Iff.rfl
      · rw [upf_ne _ _ _ _ e]
    · by_cases e : k = m
      · subst e; rw [upf_at, hloc]; constructor <;> · intro e; cases e
      · rw [upf_ne _ _ _ _ e]
theorem mx_give1 (h : Mx A nv nb hd ow l s own st loc ac B H w) (hi : i < 4) (hx : ac i = some ⟨a, true, 1, sl, tp, bl⟩) (hs : s ≤ 80000) :
    Calls Try.prog 17 #[.pointer (some ⟨a, 0, none⟩)] w (StepP A nv nb l s loc ac B H i ⟨a, true, 1, sl, tp, bl⟩ w) := by
  obtain ⟨ha, hBa, hHa, hne⟩ := h.ax i hi _ hx
  have s0 := h.s0
  have hk : i < A.k := by rw [h.k4]; exact hi
  obtain ⟨m, hm, hmn⟩ := px_slot h.px hi hx rfl
  have hm : sl = m := hm
  obtain ⟨h2, px⟩ := px_look (s' := s + 1) h.px hi hx rfl rfl (by omega)
  refine (step_give false rfl ha (give_look (R := []) B i m (ints (own i)) hm hmn (by rw [ints_len]; omega) rfl hk s0 (by omega) h.po ha (h.ol i hi)) (fun W f => ⟨_, _, _, _, _, _, f.ac, rfl⟩)).mono ?_
  rintro e w' ⟨rfl, f⟩
  obtain ⟨m1, m2⟩ := mx_plain h hi hx f (some ⟨a, true, 2, sl, nth l A.base, bl⟩) (fun y hy => by cases hy; rfl) (px _ rfl rfl rfl rfl) (by omega)
  exact ⟨false, _, _, _, _, _, _, _, _, rfl, m1, m2, by omega, by omega, .inl ⟨rfl, _, rfl, rfl, rfl, (fun _ => rfl), fun _ _ => Iff.rfl, fun _ _ => Iff.rfl, by simp [mu]⟩⟩
theorem mx_give2 (h : Mx A nv nb hd ow l s own st loc ac B H w) (hi : i < 4) (hx : ac i = some ⟨a, true, 2, sl, tp, bl⟩) (hs : s ≤ 80000) :
    Calls Try.prog 17 #[.pointer (some ⟨a, 0, none⟩)] w (StepP A nv nb l s loc ac B H i ⟨a, true, 2, sl, tp, bl⟩ w) := by
  obtain ⟨ha, hBa, hHa, hne⟩ := h.ax i hi _ hx
  have s0 := h.s0
  obtain ⟨m, hm, hmn⟩ := px_slot h.px hi hx rfl
  have hm : sl = m := hm
  obtain ⟨_, hv, px⟩ := px_glink (s' := s + 1) h.px hi hx rfl rfl hm (by omega)
  refine (step_give false rfl ha (give_link (R := []) m hm hmn hv.1 hv.2.1 s0 (by omega) h.po ha) (fun W f => ⟨_, _, _, _, _, _, f.ac, rfl⟩)).mono ?_
  rintro e w' ⟨rfl, f⟩
  obtain ⟨m1, m2⟩ := mx_plain h hi hx f (some ⟨a, true, 3, sl, tp, bl⟩) (fun y hy => by cases hy; rfl) (px _ rfl rfl rfl rfl) (by omega)
  exact ⟨false, _, _, _, _, _, _, _, _, rfl, m1, m2, by omega, by omega, .inl ⟨rfl, _, rfl, rfl, rfl, (fun _ => rfl), fun _ _ => Iff.rfl, fun _ _ => Iff.rfl, by rw [set_lk0 h.px.len hmn]; by_cases e : tp = nth l A.base <;> simp [mu, e]⟩⟩
theorem mx_give3 (h : Mx A nv nb hd ow l s own st loc ac B H w) (hi : i < 4) (hx : ac i = some ⟨a, true, 3, sl, tp, bl⟩) (hs : s ≤ 80000) :
    Calls Try.prog 17 #[.pointer (some ⟨a, 0, none⟩)] w (StepP A nv nb l s loc ac B H i ⟨a, true, 3, sl, tp, bl⟩ w) := by
  obtain ⟨ha, hBa, hHa, hne⟩ := h.ax i hi _ hx
  have s0 := h.s0
  have hx' := h.px.acs i hi _ hx
  have hv : ∃ m : Nat, sl = m ∧ m < A.n ∧ loc m = .hand i ∧ 0 ≤ tp ∧ tp ≤ 4611686018427387903 := by
    rcases hx' with ⟨h1, _⟩ | ⟨_, m, h2, h3, h4⟩
    · cases h1
    · rcases h4 with ⟨h4, _⟩ | ⟨h4, _, h6⟩
      · cases h4
      · rcases h6 with h6 | ⟨_, h7, _⟩
        · cases h6
        · exact ⟨m, h2, h3, h4, h7.1, h7.2.1⟩
  obtain ⟨m, hm, hmn, hl, v0, v1⟩ := hv
  by_cases he : nth l A.base = tp
  · obtain ⟨_, px⟩ := px_put h.px hi hx rfl (by omega) rfl hm he
    refine (step_give true rfl ha (give_swap (R := []) m true hm (decide_eq_true he) v0 v1 s0 (by omega) h.po ha) (fun W f => ⟨_, _, _, _, _, _, f.ac, rfl⟩)).mono ?_
    rintro e w' ⟨rfl, f⟩
    rw [swt_yes _ _ _ _ he] at f
    obtain ⟨m1, m2⟩ := mx_plain h hi hx f none (fun y hy => by cases hy) px (by omega)
    exact ⟨true, _, _, _, _, _, _, _, _, rfl, m1, m2, by omega, by omega, .inr ⟨rfl, rfl, _, _, _, f.ac, .inl ⟨rfl, rfl, m, .st, hm, hmn, .inr hl, trivial, rfl⟩⟩⟩
  · refine (step_give false rfl ha (give_swap (R := []) m false hm (decide_eq_false he) v0 v1 s0 (by omega) h.po ha) (fun W f => ⟨_, _, _, _, _, _, f.ac, rfl⟩)).mono ?_
    rintro e w' ⟨rfl, f⟩
    rw [swt_no _ _ _ _ he] at f
    obtain ⟨m1, m2⟩ := mx_plain h hi hx f (some ⟨a, true, 1, sl, tp, bl⟩) (fun y hy => by cases hy; rfl) (px_fail (s' := s + 1) h.px hi hx (by omega) rfl _ ⟨rfl, rfl, rfl⟩) (by omega)
    exact ⟨false, _, _, _, _, _, _, _, _, rfl, m1, m2, by omega, by omega, .inl ⟨rfl, _, rfl, rfl, rfl, (fun _ => rfl), fun _ _ => Iff.rfl, fun _ _ => Iff.rfl, by have e : ¬ tp = nth l A.base := fun e => he e.symm; simp [mu, e]⟩⟩
/-- one Step of any act -/
theorem mx_step {x : Xa} (h : Mx A nv nb hd ow l s own st loc ac B H w) (hi : i < 4) (hx : ac i = some x) (hs : s ≤ 80000) :
    Calls Try.prog 17 #[.pointer (some ⟨x.a, 0, none⟩)] w (StepP A nv nb l s loc ac B H i x w) := by
  have hx' := h.px.acs i hi _ hx
  obtain ⟨a, gv, nx, sl, tp, bl⟩ := x
  rcases hx' with ⟨h1, h2⟩ | ⟨h1, m, h2, h3, h4⟩
  · have h1 : gv = false := h1
    subst h1
    rcases h2 with h2 | ⟨h2 | h2, _⟩
    · have h2 : nx = 1 := h2
      subst h2; exact mx_take1 h hi hx hs
    · have h2 : nx = 2 := h2
      subst h2; exact mx_take2 h hi hx hs
    · have h2 : nx = 3 := h2
      subst h2; exact mx_take3 h hi hx hs
  · have h1 : gv = true := h1
    subst h1
    rcases h4 with ⟨h4, _⟩ | ⟨_, _, h4 | ⟨h4 | h4, _⟩⟩
    · have h4 : nx = 0 := h4
      subst h4; exact mx_give0 h hi hx hs
    · have h4 : nx = 1 := h4
      subst h4; exact mx_give1 h hi hx hs
    · have h4 : nx = 2 := h4
      subst h4; exact mx_give2 h hi hx hs
    · have h4 : nx = 3 := h4
      subst h4; exact mx_give3 h hi hx hs
end
end Go.Proofs.Ytaihmkflhapjeaa

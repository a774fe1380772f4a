/-
  Several acts at once: one of them alone, to its end.
-/
import Derived.Test.YtaihmkflhapjeaaPoU
namespace Go.Proofs.Ytaihmkflhapjeaa
open Go.RowKit Go.MuLone
set_option linter.unusedVariables false
theorem upf_upf {T : Type} (f : Nat → T) (n : Nat) (x y : T) : upf (upf f n x) n y = upf f n y := by
  funext i
  unfold upf
  split <;> rfl
theorem Fr.trans {B : Nat} {H : List Nat} {w w1 w2 : World} (h : Fr B H w w1) (k : Fr B H w1 w2) : Fr B H w w2 := by
  obtain ⟨S, t, hS⟩ := h
  obtain ⟨R, u, hR⟩ := k
  refine ⟨S ++ R, (t.mono (by simp +contextual)).trans (u.mono (by simp +contextual)), fun i hi => ?_⟩
  rcases List.mem_append.mp hi with h | h
  · exact hS i h
  · exact hR i h
theorem Fr.rfl' {B : Nat} {H : List Nat} (w : World) : Fr B H w w := ⟨[], Tw.refl _ _, by simp⟩
/-- what an act that is over has done -/
def Done (n : Nat) (loc loc' : Nat → Loc) (i : Nat) (gv : Bool) (sl0 sl : Int) : Prop :=
  (gv = true ∧ sl = sl0 ∧ ∃ m : Nat, sl0 = m ∧ m < n ∧ ¬ Free (loc m) ∧ Free (loc' m) ∧ (∀ k, k < n → k ≠ m → (Free (loc' k) ↔ Free (loc k))) ∧ ∀ k j, loc' k = .hold j ↔ loc k = .hold j) ∨
  (gv = false ∧ sl = -1 ∧ (∀ k, k < n → (Free (loc' k) ↔ Free (loc k))) ∧ ∀ k j, loc' k = .hold j ↔ loc k = .hold j) ∨
  (gv = false ∧ ∃ m : Nat, sl = m ∧ m < n ∧ Free (loc m) ∧ ¬ Free (loc' m) ∧ (∀ k, k < n → k ≠ m → (Free (loc' k) ↔ Free (loc k))) ∧ ∀ k j, loc' k = .hold j ↔ (k = m ∧ j = i) ∨ (k ≠ m ∧ loc k = .hold j))
theorem Done.pre {n i : Nat} {loc loc1 loc2 : Nat → Loc} {gv : Bool} {sl0 sl : Int} (h : Done n loc1 loc2 i gv sl0 sl) (hf : ∀ k, k < n → (Free (loc1 k) ↔ Free (loc k))) (hh : ∀ k j, loc1 k = .hold j ↔ loc k = .hold j) : Done n loc loc2 i gv sl0 sl := by
  rcases h with ⟨h1, h2, m, h3, h4, h5, h6, h7, h8⟩ | ⟨h1, h2, h3, h4⟩ | ⟨h1, m, h2, h3, h4, h5, h6, h7⟩
  · exact .inl ⟨h1, h2, m, h3, h4, fun e => h5 ((hf m h4).mpr e), h6, fun k hk e => (h7 k hk e).trans (hf k hk), fun k j => (h8 k j).trans (hh k j)⟩
  · exact .inr (.inl ⟨h1, h2, fun k hk => (h3 k hk).trans (hf k hk), fun k j => (h4 k j).trans (hh k j)⟩)
  · exact .inr (.inr ⟨h1, m, h2, h3, (hf m h3).mp h4, h5, fun k hk e => (h6 k hk e).trans (hf k hk), fun k j => (h7 k j).trans (by rw [hh k j])⟩)
theorem done_of {n i : Nat} {loc loc' : Nat → Loc} {gv : Bool} {sl0 sl : Int} {st : List Nat} {own : Nat → List Nat}
    (h : (gv = true ∧ sl = sl0 ∧ ∃ (m : Nat) (q : Loc), sl0 = m ∧ m < n ∧ (loc m = .giv i ∨ loc m = .hand i) ∧ Free q ∧ loc' = upf loc m q) ∨ (gv = false ∧ sl = -1 ∧ st = [] ∧ own i = [] ∧ loc' = loc) ∨ (gv = false ∧ ∃ m : Nat, sl = m ∧ m < n ∧ Free (loc m) ∧ loc' = upf loc m (.hold i))) : Done n loc loc' i gv sl0 sl := by
  rcases h with ⟨h1, h2, m, q, h3, h4, h5, h6, rfl⟩ | ⟨h1, h2, _, _, rfl⟩ | ⟨h1, m, h2, h3, h4, rfl⟩
  · refine .inl ⟨h1, h2, m, h3, h4, ?_, by rw [upf_at]; exact h6, fun k _ e => by rw [upf_ne _ _ _ _ e], fun k j => ?_⟩
    · rcases h5 with e | e <;> rw [e] <;> exact fun h => h
    · by_cases e : k = m
      · subst e
        rw [upf_at]
        constructor
        · intro e2; rw [e2] at h6; exact absurd h6 (fun h => h)
        · intro e2; exact absurd e2 (not_hold h5)
      · rw [upf_ne _ _ _ _ e]
  · exact .inr (.inl ⟨h1, h2, fun _ _ => Iff.rfl, fun _ _ => Iff.rfl⟩)
  · refine .inr (.inr ⟨h1, m, h2, h3, h4, by rw [upf_at]; exact fun h => h, fun k _ e => by rw [upf_ne _ _ _ _ e], fun k j => ?_⟩)
    by_cases e : k = m
    · subst e
      rw [upf_at]
      constructor
      · intro e2; cases e2; exact .inl ⟨rfl, rfl⟩
      · rintro (⟨_, rfl⟩ | ⟨e2, _⟩)
        · rfl
        · exact absurd rfl e2
    · rw [upf_ne _ _ _ _ e]
      constructor
      · exact fun h => .inr ⟨e, h⟩
      · rintro (⟨e2, _⟩ | ⟨_, h⟩)
        · exact absurd e2 e
        · exact h
section
variable {A : Ad} {nv : Nat → Value} {nb : Nat → Int} {hd : Nat → Bool} {ow : Nat → Value} {l : List Int} {s : Int} {own : Nat → List Nat} {st : List Nat} {loc : Nat → Loc} {ac : Nat → Option Xa} {B i : Nat} {H : List Nat} {w w1 : World} {x : Xa}
/-- an act is over -/
def OverP (A : Ad) (nv : Nat → Value) (nb : Nat → Int) (loc : Nat → Loc) (ac : Nat → Option Xa) (B : Nat) (H : List Nat) (i : Nat) (x : Xa) (b : Int) (w w' : World) : Prop :=
  ∃ hd' ow' l' s' own' st' loc' sl tp bl, Mx A nv nb hd' ow' l' s' own' st' loc' (upf ac i none) B H w' ∧ Fr B H w w' ∧ s' ≤ b ∧ Ac x.a A (i : Int) x.gv 4 sl tp bl w' ∧ Done A.n loc loc' i x.gv x.sl sl
/-- it goes on still -/
def OnP (A : Ad) (nv : Nat → Value) (nb : Nat → Int) (loc : Nat → Loc) (ac : Nat → Option Xa) (B : Nat) (H : List Nat) (i : Nat) (x : Xa) (b : Int) (k : Nat) (w w' : World) : Prop :=
  ∃ hd' ow' l' s' own' st' loc' y, Mx A nv nb hd' ow' l' s' own' st' loc' (upf ac i (some y)) B H w' ∧ Fr B H w w' ∧ s' ≤ b ∧ y.a = x.a ∧ y.gv = x.gv ∧ (y.gv = true → y.sl = x.sl) ∧ (∀ m, m < A.n → (Free (loc' m) ↔ Free (loc m))) ∧ (∀ m j, loc' m = .hold j ↔ loc m = .hold j) ∧ mu (nth l' A.base) y + k ≤ 5
theorem upf_self {T : Type} (f : Nat → T) (n : Nat) (x : T) (h : f n = x) : upf f n x = f := by
  funext i
  unfold upf
  split
  · rename_i e; subst e; exact h.symm
  · rfl
theorem on_step {b : Int} {k : Nat} (h : OnP A nv nb loc ac B H i x b k w w1) (hi : i < 4) (hb : b ≤ 80000) :
    Calls Try.prog 17 #[.pointer (some ⟨x.a, 0, none⟩)] w1 fun e w' => ∃ r : Bool, e = .returned (.bool r) ∧ ((r = false ∧ OnP A nv nb loc ac B H i x (b + 1) (k + 1) w w') ∨ (r = true ∧ OverP A nv nb loc ac B H i x (b + 1) w w')) := by
  obtain ⟨hd', ow', l', s', own', st', loc', y, h1, h2, h3, h4, h5, h6, h7, h8, h9⟩ := h
  have st := mx_step h1 hi (upf_at _ _ _) (by omega)
  rw [h4] at st
  refine st.mono ?_
  rintro e w' ⟨r, hd2, ow2, l2, s2, own2, st2, loc2, x2, rfl, m1, m2, m3, m4, m5⟩
  rw [upf_upf] at m1
  refine ⟨r, rfl, ?_⟩
  rcases m5 with ⟨rfl, z, rfl, z1, z2, z3, z4, z5, z6⟩ | ⟨rfl, rfl, sl, tp, bl, z1, z2⟩
  · exact .inl ⟨rfl, hd2, ow2, l2, s2, own2, st2, loc2, z, m1, h2.trans m2, by omega, z1.trans h4, z2.trans h5, fun e => (z3 e).trans (h6 (z2 ▸ e)), fun m hm => (z4 m hm).trans (h7 m hm), fun m j => (z5 m j).trans (h8 m j), by omega⟩
  · refine .inr ⟨rfl, hd2, ow2, l2, s2, own2, st2, loc2, sl, tp, bl, m1, h2.trans m2, by omega, by rw [← h5, ← h4]; exact z1, ?_⟩
    have d := (done_of z2).pre h7 h8
    rw [h5] at d h6
    cases hg : x.gv
    · rw [hg] at d
      rcases d with ⟨d, _⟩ | d | d
      · cases d
      · exact .inr (.inl d)
      · exact .inr (.inr d)
    · rw [hg] at d h6
      rw [h6 rfl] at d
      exact d
theorem on_over {b : Int} {k : Nat} (h : OnP A nv nb loc ac B H i x b k w w1) (hi : i < 4) : Calls Try.prog 16 #[.pointer (some ⟨x.a, 0, none⟩)] w1 fun e w' => e = .returned (.bool false) ∧ w1 = w' := by
  obtain ⟨hd', ow', l', s', own', st', loc', y, h1, h2, h3, h4, h5, h6, h7, h8, h9⟩ := h
  obtain ⟨ha, _⟩ := h1.ax i hi y (upf_at _ _ _)
  rw [h4] at ha
  refine over_any false ?_ ha
  have hok := h1.px.acs i hi y (upf_at _ _ _)
  have : y.nx ≠ 4 := by
    rcases hok with ⟨_, h | ⟨h | h, _⟩⟩ | ⟨_, m, _, _, ⟨h, _⟩ | ⟨_, _, h | ⟨h | h, _⟩⟩⟩ <;> omega
  simpa using this
theorem over_over {b : Int} (h : OverP A nv nb loc ac B H i x b w w1) : Calls Try.prog 16 #[.pointer (some ⟨x.a, 0, none⟩)] w1 fun e w' => e = .returned (.bool true) ∧ w1 = w' := by
  obtain ⟨hd', ow', l', s', own', st', loc', sl, tp, bl, h1, h2, h3, h4, h5⟩ := h
  exact over_any true rfl h4
theorem OverP.mono {b b' : Int} (h : OverP A nv nb loc ac B H i x b w w1) (hb : b ≤ b') : OverP A nv nb loc ac B H i x b' w w1 := by
  obtain ⟨hd', ow', l', s', own', st', loc', sl, tp, bl, h1, h2, h3, h4, h5⟩ := h
  exact ⟨hd', ow', l', s', own', st', loc', sl, tp, bl, h1, h2, by omega, h4, h5⟩
theorem mx_on (h : Mx A nv nb hd ow l s own st loc ac B H w) (hx : ac i = some x) : OnP A nv nb loc ac B H i x s 0 w w :=
  ⟨hd, ow, l, s, own, st, loc, x, by rw [upf_self _ _ _ hx]; exact h, Fr.rfl' w, Int.le_refl _, rfl, rfl, fun _ => rfl, fun _ _ => Iff.rfl, fun _ _ => Iff.rfl, by have := mu_le (nth l A.base) x; omega⟩
set_option maxHeartbeats 4000000 in
/-- an act is run to its end; what run tells is -1 if that took five Steps -/
theorem mx_run (h : Mx A nv nb hd ow l s own st loc ac B H w) (hi : i < 4) (hx : ac i = some x) (hs : s ≤ 70000) :
    Calls Try.prog 23 #[.pointer (some ⟨x.a, 0, none⟩)] w fun e w' => ∃ z : Int, e = .returned (.int .i64 z) ∧ OverP A nv nb loc ac B H i x (s + 5) w w' := by
  have ON := Lib.hid (mx_on h hx)
  have ST := Lib.hid (fun (k : Nat) (hk : k ≤ 5) W (h : OnP A nv nb loc ac B H i x (s + k) k w W) => on_step h hi (by omega))
  have OO := Lib.hid (fun (k : Nat) W (h : OnP A nv nb loc ac B H i x (s + k) k w W) => on_over h hi)
  have OV := Lib.hid (fun (k : Nat) W (h : OverP A nv nb loc ac B H i x (s + k) w W) => over_over h)
  have N5 := Lib.hid (fun W (h : OnP A nv nb loc ac B H i x (s + (5 : Nat)) 5 w W) => show False from by
    obtain ⟨_, _, l', _, _, _, _, y, _, _, _, _, _, _, _, _, h9⟩ := h
    have := mu_le (nth l' A.base) y
    omega)
  have MO := Lib.hid (fun (k : Nat) (hk : k ≤ 5) W (h : OverP A nv nb loc ac B H i x (s + k) w W) => h.mono (show s + (k : Int) ≤ s + 5 by omega))
  clear h hx hs
  go_enter Try.func23, Try.ntmps23
  go_wp2
  go_loopw [3] (fun j wr => ∃ k : Nat, j = .int .i64 k ∧ k ≤ 5 ∧ (Hid (OnP A nv nb loc ac B H i x (s + k) k w wr) ∨ Hid (OverP A nv nb loc ac B H i x (s + k) w wr))) (fun j _ => 5 - (intOf j).toNat)
  case atStart => exact ⟨0, rfl, by omega, .inl (by simpa using ON)⟩
  case round =>
    clear ON
    obtain ⟨k, rfl, hk, hor⟩ := hrel
    by_cases hlt : k ≤ 4
    · have i1 : (k : Int) ≤ 4 := by omega
      have hwk : IntKind.i64.wrap ((k : Int) + 1) = (k : Int) + 1 := IntWalk.i64_in _ (by omega)
      rcases hor with ON | OP
      · have O := Lib.hid (OO.out k _ ON.out)
        have S := Lib.hid (ST.out k hk _ ON.out)
        clear ST OO OV N5 MO ON
        go_wp2_with fail
        refine O.out.mono ?_; rintro e w2 ⟨rfl, rfl⟩
        clear O
        go_wp2_with fail
        refine S.out.mono ?_; rintro e w3 ⟨r, rfl, hr⟩
        have HR := Lib.hid (show OnP A nv nb loc ac B H i x (s + ((k + 1 : Nat) : Int)) (k + 1) w w3 ∨ OverP A nv nb loc ac B H i x (s + ((k + 1 : Nat) : Int)) w w3 from by
          rw [show s + ((k + 1 : Nat) : Int) = s + (k : Int) + 1 by omega]
          rcases hr with ⟨_, h⟩ | ⟨_, h⟩
          · exact .inl h
          · exact .inr h)
        clear hr S
        go_wp2
        go_roundw
        case rel => exact ⟨k + 1, by go_num, by omega, by rcases HR.out with h | h; exact .inl h; exact .inr h⟩
        case measure => simp [intOf]; omega
      · have O := Lib.hid (OV.out k _ OP.out)
        have FIN := Lib.hid (MO.out k hk _ OP.out)
        clear ST OO OV N5 MO OP
        go_wp2_with fail
        refine O.out.mono ?_; rintro e w2 ⟨rfl, rfl⟩
        clear O
        go_wp2
        go_ret
        exact ⟨_, rfl, FIN.out⟩
    · obtain rfl : k = 5 := by omega
      have i1 : ¬ ((5 : Nat) : Int) ≤ 4 := by omega
      have FIN : Hid (OverP A nv nb loc ac B H i x (s + 5) w _) := Lib.hid (by
        rcases hor with ON | OP
        · exact absurd ON.out (fun h => N5.out _ h)
        · exact MO.out 5 (by omega) _ OP.out)
      clear ST OO OV N5 MO hor
      go_wp2
      go_ret
      exact ⟨⟨_, rfl⟩, FIN.out⟩
end
end Go.Proofs.Ytaihmkflhapjeaa

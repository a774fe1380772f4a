/-
  PoolMixed: one Step, as the law sees it.
-/
import Derived.Test.YtaihmkflhapjeaaMxD
namespace Go.Proofs.Ytaihmkflhapjeaa
open Go.RowKit Go.MuLone
set_option linter.unusedVariables false
section
variable {A : Ad} {nv : Nat → Value} {nb : Nat → Int} {hd : Nat → Bool} {ow : Nat → Value} {l : List Int} {s b : Int} {own : Nat → List Nat} {st : List Nat} {loc : Nat → Loc} {ac : Nat → Option Xa} {B i : Nat} {H : List Nat} {w0 w w1 : World} {x : Xa}
variable {q g cap qa qh : Nat} {hvv : Nat → Int} {hl : Nat → Value} {L : Nat → List Nat} {bx : Nat → Nat} {fr : Nat → Int}
theorem mx_steps2 (h : Mx A nv nb hd ow l s own st loc ac B H w) : Calls Try.prog 22 #[.pointer (some ⟨A.g, 0, none⟩)] w fun e w' => e = .returned (.int .i64 s) ∧ Mx A nv nb hd ow l s own st loc ac B H w' ∧ Fr B H w w' ∧ Tw [A.g, A.b] w w' := by
  obtain ⟨k, c, o, m, d, hm⟩ := h.po.mem
  refine (steps_any A.g A.b l s k c o m d w hm).mono ?_
  intro e w1 hd2
  obtain ⟨h1, h2, h3⟩ := h.po.did hd2 rfl
  obtain ⟨h4, h5⟩ := h.mem h2 h3
  exact ⟨h1, h4, h5, h3⟩
/-- behind a Step: the act, and what became of it -/
def StepQ (A : Ad) (i : Nat) (x : Xa) (loc loc' : Nat → Loc) (own' : Nat → List Nat) (st' : List Nat) (ac1 ac2 : Nat → Option Xa) (r : Bool) (sl : Int) : Prop :=
  (r = false ∧ ac1 = ac2 ∧ (∀ m, m < A.n → (Free (loc' m) ↔ Free (loc m))) ∧ ∀ m j, loc' m = .hold j ↔ loc m = .hold j) ∨
  (r = true ∧ ac1 = upf ac2 i none ∧ Done A.n loc loc' i x.gv x.sl sl ∧ (x.gv = false → sl = -1 → st' = [] ∧ own' i = []))
theorem jt_step (h : Mx A nv nb hd ow l s own st loc ac B H w) (hL : Lv q g A.n cap qa qh B H hvv hl L bx fr ac w) (hi : i < 4) (hx : ac i = some x) (hs : s ≤ 80000) :
    Calls Try.prog 17 #[.pointer (some ⟨x.a, 0, none⟩)] w fun e w' => ∃ (r : Bool) (hd' : Nat → Bool) (ow' : Nat → Value) (l' : List Int) (s' : Int) (own' : Nat → List Nat) (st' : List Nat) (loc' : Nat → Loc) (ac1 ac2 : Nat → Option Xa) (y : Xa) (nx sl tp bl : Int),
      e = .returned (.bool r) ∧ Mx A nv nb hd' ow' l' s' own' st' loc' ac1 B H w' ∧ Lv q g A.n cap qa qh B H hvv hl L bx fr ac2 w' ∧ Fr B H w w' ∧ s' ≤ s + 1 ∧ ac2 i = some y ∧ y.a = x.a ∧ y.gv = x.gv ∧ xs y = xs x ∧ Ac x.a A (i : Int) x.gv nx sl tp bl w' ∧ (nx == 4) = r ∧ StepQ A i x loc loc' own' st' ac1 ac2 r sl := by
  refine (mx_step h hi hx hs).mono ?_
  rintro e w' ⟨r, hd2, ow2, l2, s2, own2, st2, loc2, x2, rfl, m1, m2, m3, m4, m5⟩
  have lv := hL.fr' m2
  rcases m5 with ⟨rfl, z, rfl, z1, z2, z3, z4, z5, z6⟩ | ⟨rfl, rfl, sl, tp, bl, z1, z2⟩
  · obtain ⟨ha, _⟩ := m1.ax i hi z (upf_at _ _ _)
    have hok := m1.px.acs i hi z (upf_at _ _ _)
    have n4 : z.nx ≠ 4 := by
      rcases hok with ⟨_, h | ⟨h | h, _⟩⟩ | ⟨_, m, _, _, ⟨h, _⟩ | ⟨_, _, h | ⟨h | h, _⟩⟩⟩ <;> omega
    rw [z1, z2] at ha
    have es : xs z = xs x := by
      unfold xs
      rw [← z2]
      split
      · rename_i e; exact z3 e
      · rfl
    exact ⟨false, hd2, ow2, l2, s2, own2, st2, loc2, _, _, z, z.nx, z.sl, z.tp, z.bl, rfl, m1, lv.step hx z1 z2 z3, m2, by omega, upf_at _ _ _, z1, z2, es, ha, by simpa using n4, .inl ⟨rfl, rfl, z4, z5⟩⟩
  · exact ⟨true, hd2, ow2, l2, s2, own2, st2, loc2, _, _, x, 4, sl, tp, bl, rfl, m1, lv, m2, by omega, hx, rfl, rfl, rfl, z1, rfl, .inr ⟨rfl, rfl, done_of z2, fun e1 e2 => by
      rcases z2 with ⟨k1, _⟩ | ⟨_, _, k3, k4, _⟩ | ⟨_, m, k2, _⟩
      · rw [e1] at k1; cases k1
      · exact ⟨k3, k4⟩
      · omega⟩⟩
end
end Go.Proofs.Ytaihmkflhapjeaa

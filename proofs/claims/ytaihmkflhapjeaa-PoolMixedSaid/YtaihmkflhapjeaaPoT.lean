/-
  Several acts at once, in memory.
-/
import Derived.Test.YtaihmkflhapjeaaPoS
namespace Go.Proofs.Ytaihmkflhapjeaa
open Go.RowKit Go.MuLone
set_option linter.unusedVariables false
structure Mx (A : Ad) (nv : Nat → Value) (nb : Nat → Int) (hd : Nat → Bool) (ow : Nat → Value) (l : List Int) (s : Int) (own : Nat → List Nat) (st : List Nat) (loc : Nat → Loc) (ac : Nat → Option Xa) (B : Nat) (H : List Nat) (w : World) : Prop where
  px : Px A.n A.base l hd s own st loc ac
  po : Po A nv nb hd ow l s w
  k4 : A.k = 4
  s0 : 0 ≤ s
  ol : ∀ i, i < 4 → Ol B (ow i) (ints (own i)) w
  oa : ∀ i, i < 4 → ∀ b, b ∈ vblk (ow i) → (b ≠ A.p ∧ b ≠ A.g ∧ b ≠ A.b ∧ b ≠ A.bn ∧ b ≠ A.bh ∧ b ≠ A.bo) ∧ b ∉ H ∧ ∀ j, j < 4 → j ≠ i → b ∉ vblk (ow j)
  ha : ∀ i, i = A.p ∨ i = A.g ∨ i = A.b ∨ i = A.bn ∨ i = A.bh ∨ i = A.bo → B ≤ i ∧ i ∉ H
  hw : ∀ i, i ∈ H → i < w.heap.size
  hB : B ≤ w.heap.size
  ax : ∀ i, i < 4 → ∀ x, ac i = some x → Ac x.a A (i : Int) x.gv x.nx x.sl x.tp x.bl w ∧ B ≤ x.a ∧ x.a ∉ H ∧ ∀ j, j < 4 → j ≠ i → ∀ y, ac j = some y → x.a ≠ y.a
section
variable {A : Ad} {nv : Nat → Value} {nb : Nat → Int} {hd hd' : Nat → Bool} {ow ow' : Nat → Value} {l l' : List Int} {s s' : Int} {own own' : Nat → List Nat} {st st' : List Nat} {loc loc' : Nat → Loc} {ac : Nat → Option Xa} {B i : Nat} {H R : List Nat} {w w1 : World} {x : Xa} {gv : Bool} {nx sl tp bl : Int}
theorem mx_go (h : Mx A nv nb hd ow l s own st loc ac B H w) (hi : i < 4) (hx : ac i = some x) (f : Af x.a A nv nb hd' ow' l' s' (i : Int) gv nx sl tp bl R w w1) (hR : ∀ b, b ∈ R → b ∈ vblk (ow i)) (hol : Ol B (ow' i) (ints (own' i)) w1) (how : ∀ j, j ≠ i → ow' j = ow j) (hown : ∀ j, j ≠ i → own' j = own j)
    (hvb : ∀ b, b ∈ vblk (ow' i) → b ∈ vblk (ow i) ∨ w.heap.size ≤ b) (x' : Option Xa) (hx' : ∀ y, x' = some y → y = ⟨x.a, gv, nx, sl, tp, bl⟩) (px' : Px A.n A.base l' hd' s' own' st' loc' (upf ac i x')) (hs' : 0 ≤ s') :
    Mx A nv nb hd' ow' l' s' own' st' loc' (upf ac i x') B H w1 ∧ Fr B H w w1 := by
  obtain ⟨ha, hBa, hHa, hne⟩ := h.ax i hi x hx
  have hlt := h.po.lt
  have hsz := f.tw.size
  have aa := ha.ne h.po
  -- the blocks of the lists
  have tyo : ∀ j, j < 4 → ∀ b, b ∈ vblk (ow j) → b < w.heap.size ∧ ∀ k, k < 4 → ∀ y, ac k = some y → b ≠ y.a := fun j hj b hb => by
    obtain ⟨_, cur, hc⟩ := (h.ol j hj).blk b hb
    refine ⟨lt_hp hc, fun k hk y hy e => ?_⟩
    obtain ⟨hay, _⟩ := h.ax k hk y hy
    subst e
    exact absurd rfl (blk_ty hc hay (by decide))
  have inS : ∀ b, b ∈ A.g :: A.b :: A.bh :: A.bo :: x.a :: R → b = A.g ∨ b = A.b ∨ b = A.bh ∨ b = A.bo ∨ b = x.a ∨ b ∈ vblk (ow i) := fun b hb => by
    simp only [List.mem_cons] at hb
    rcases hb with hb | hb | hb | hb | hb | hb
    · exact .inl hb
    · exact .inr (.inl hb)
    · exact .inr (.inr (.inl hb))
    · exact .inr (.inr (.inr (.inl hb)))
    · exact .inr (.inr (.inr (.inr (.inl hb))))
    · exact .inr (.inr (.inr (.inr (.inr (hR b hb)))))
  refine ⟨⟨px', f.st, h.k4, hs', fun j hj => ?_, fun j hj b hb => ?_, h.ha, fun b hb => Nat.lt_of_lt_of_le (h.hw b hb) hsz, Nat.le_trans h.hB hsz, fun j hj y hy => ?_⟩, _, f.tw, fun b hb => ?_⟩
  · by_cases e : j = i
    · subst e; exact hol
    · rw [how j e, hown j e]
      refine (h.ol j hj).keep f.tw (fun b hb hv => ?_)
      obtain ⟨⟨o1, o2, o3, o4, o5, o6⟩, o7, o8⟩ := h.oa j hj b hv
      rcases inS b hb with c | c | c | c | c | c
      · exact o2 c
      · exact o3 c
      · exact o5 c
      · exact o6 c
      · exact (tyo j hj b hv).2 i hi x hx c
      · exact o8 i hi (fun e2 => e e2.symm) c
  · by_cases e : j = i
    · subst e
      rcases hvb b hb with c | c
      · obtain ⟨o1, o2, o3⟩ := h.oa j hj b c
        exact ⟨o1, o2, fun k hk e => by rw [how k e]; exact o3 k hk e⟩
      · refine ⟨by omega, fun hm => by have := h.hw b hm; omega, fun k hk e hm => ?_⟩
        rw [how k e] at hm
        have := (tyo k hk b hm).1
        omega
    · rw [how j e] at hb
      obtain ⟨o1, o2, o3⟩ := h.oa j hj b hb
      refine ⟨o1, o2, fun k hk e2 hm => ?_⟩
      by_cases e3 : k = i
      · subst e3
        rcases hvb b hm with c | c
        · exact o3 k hk e2 c
        · have := (tyo j hj b hb).1; omega
      · rw [how k e3] at hm; exact o3 k hk e2 hm
  · by_cases e : j = i
    · subst e
      rw [upf_at] at hy
      obtain rfl := hx' y hy
      exact ⟨f.ac, hBa, hHa, fun k hk e2 z hz => by rw [upf_ne _ _ _ _ e2] at hz; exact hne k hk e2 z hz⟩
    · rw [upf_ne _ _ _ _ e] at hy
      obtain ⟨hay, y1, y2, y3⟩ := h.ax j hj y hy
      have ay := hay.ne h.po
      refine ⟨hay.keep f.tw (fun hb => ?_), y1, y2, fun k hk e2 z hz => ?_⟩
      · rcases inS y.a hb with c | c | c | c | c | c
        · exact ay.g c
        · exact ay.b c
        · exact ay.h c
        · exact ay.o c
        · exact y3 i hi (fun e2 => e e2.symm) x hx c
        · exact (tyo i hi y.a c).2 j hj y hy rfl
      · by_cases e3 : k = i
        · subst e3
          rw [upf_at] at hz
          rw [hx' z hz]
          exact y3 k hk e2 x hx
        · rw [upf_ne _ _ _ _ e3] at hz; exact y3 k hk e2 z hz
  · rcases inS b hb with c | c | c | c | c | c
    · exact h.ha b (by simp [c])
    · exact h.ha b (by simp [c])
    · exact h.ha b (by simp [c])
    · exact h.ha b (by simp [c])
    · subst c; exact ⟨hBa, hHa⟩
    · exact ⟨((h.ol i hi).blk b c).1, (h.oa i hi b c).2.1⟩
end
end Go.Proofs.Ytaihmkflhapjeaa

/-
  PoolMixed: the acts that are under way at the end.
-/
import Derived.Test.YtaihmkflhapjeaaMxJ
namespace Go.Proofs.Ytaihmkflhapjeaa
open Go.RowKit Go.MuLone
set_option linter.unusedVariables false
/-- where PoolMixed stands when the acts below kk are over -/
def Je (A : Ad) (q g cap qa qh B : Nat) (w0 : World) (b : Int) (kk : Nat) (w : World) : Prop := ∃ nv nb hd ow l s own st loc ac ac2 H hvv hl L bx fr, Mx A nv nb hd ow l s own st loc ac B H w ∧ Lv q g A.n cap qa qh B H hvv hl L bx fr ac2 w ∧ (∀ m, m < A.n → (hvv m = -1 ↔ Free (loc m))) ∧ s ≤ b ∧ Below B w0 w ∧ (∀ c, c ∈ H → B ≤ c) ∧ ∀ i, kk ≤ i → ac i = ac2 i
theorem je_begin {A : Ad} {q g cap qa qh B : Nat} {w0 w : World} {b : Int} (h : Jt A q g cap qa qh B w0 b w) : Je A q g cap qa qh B w0 b 0 w := by
  obtain ⟨nv, nb, hd, ow, l, s, own, st, loc, ac, H, hvv, hl, L, bx, fr, mx, lv, rl, hs, bel, hH⟩ := h
  exact ⟨nv, nb, hd, ow, l, s, own, st, loc, ac, ac, H, hvv, hl, L, bx, fr, mx, lv, rl.hr, hs, bel, hH, fun _ _ => rfl⟩
theorem Je.next {A : Ad} {q g cap qa qh B kk : Nat} {w0 w : World} {b : Int} (h : Je A q g cap qa qh B w0 b kk w) : Je A q g cap qa qh B w0 b (kk + 1) w := by
  obtain ⟨nv, nb, hd, ow, l, s, own, st, loc, ac, ac2, H, hvv, hl, L, bx, fr, mx, lv, hr, hs, bel, hH, he⟩ := h
  exact ⟨nv, nb, hd, ow, l, s, own, st, loc, ac, ac2, H, hvv, hl, L, bx, fr, mx, lv, hr, hs, bel, hH, fun i hi => he i (by omega)⟩
theorem Je.mono {A : Ad} {q g cap qa qh B kk : Nat} {w0 w : World} {b b' : Int} (h : Je A q g cap qa qh B w0 b kk w) (hb : b ≤ b') : Je A q g cap qa qh B w0 b' kk w := by
  obtain ⟨nv, nb, hd, ow, l, s, own, st, loc, ac, ac2, H, hvv, hl, L, bx, fr, mx, lv, hr, hs, bel, hH, he⟩ := h
  exact ⟨nv, nb, hd, ow, l, s, own, st, loc, ac, ac2, H, hvv, hl, L, bx, fr, mx, lv, hr, Int.le_trans hs hb, bel, hH, he⟩
theorem je_own {A : Ad} {q g cap qa qh B kk i : Nat} {w0 w : World} {b : Int} (h : Je A q g cap qa qh B w0 b kk w) (hi : i < 4) : Calls Try.prog 14 #[.pointer (some ⟨A.p, 0, none⟩), .int .i64 (i : Int)] w fun e w' => ∃ x n c, e = .returned (.slice x n c) ∧ n ≤ 2 ∧ Je A q g cap qa qh B w0 b kk w' := by
  obtain ⟨nv, nb, hd, ow, l, s, own, st, loc, ac, ac2, H, hvv, hl, L, bx, fr, mx, lv, hr, hs, bel, hH, he⟩ := h
  refine (mx_own mx hi).mono ?_
  rintro e w' ⟨v, rfl, l3, g3, mx2⟩
  obtain ⟨x4, c4, rfl, _⟩ := l3.ints
  exact ⟨x4, _, c4, rfl, by rw [ints_len]; exact mx.px.o2 i hi, nv, nb, hd, ow, l, s, own, st, loc, ac, ac2, H, hvv, hl, L, bx, fr, mx2, lv.up g3, hr, hs, bel.trans (g3.mono mx.hB), hH, he⟩
section
variable {A : Ad} {nv : Nat → Value} {nb : Nat → Int} {hd : Nat → Bool} {ow : Nat → Value} {l : List Int} {s b : Int} {own : Nat → List Nat} {st : List Nat} {loc loc' : Nat → Loc} {ac ac2 : Nat → Option Xa} {B i : Nat} {H : List Nat} {w0 w w1 : World} {x : Xa}
variable {q g cap qa qh kk : Nat} {hvv : Nat → Int} {hl : Nat → Value} {L : Nat → List Nat} {bx : Nat → Nat} {fr : Nat → Int}
theorem he_upf (he : ∀ i, kk ≤ i → ac i = ac2 i) : ∀ i, kk + 1 ≤ i → upf ac kk none i = ac2 i := fun i hi => by
  rw [upf_ne _ _ _ _ (by omega)]
  exact he i (by omega)
theorem je_same (hM : Mx A nv nb hd ow l s own st loc' (upf ac kk none) B H w) (hL : Lv q g A.n cap qa qh B H hvv hl L bx fr ac2 w) (hr : ∀ m, m < A.n → (hvv m = -1 ↔ Free (loc m))) (hs : s ≤ b) (hb : Below B w0 w) (hH : ∀ c, c ∈ H → B ≤ c) (he : ∀ i, kk ≤ i → ac i = ac2 i) (hf : ∀ k, k < A.n → (Free (loc' k) ↔ Free (loc k))) : Je A q g cap qa qh B w0 b (kk + 1) w :=
  ⟨_, _, _, _, _, _, _, _, _, _, _, _, _, _, _, _, _, hM, hL, fun m hm => (hr m hm).trans (hf m hm).symm, hs, hb, hH, he_upf he⟩
theorem je_back {m : Nat} (hM : Mx A nv nb hd ow l s own st loc' (upf ac kk none) B H w) (hL : Lv q g A.n cap qa qh B H hvv hl L bx fr ac2 w) (hr : ∀ m, m < A.n → (hvv m = -1 ↔ Free (loc m))) (hs : s ≤ b) (hb : Below B w0 w) (hH : ∀ c, c ∈ H → B ≤ c) (he : ∀ i, kk ≤ i → ac i = ac2 i) (hm : m < A.n) (hf : Free (loc' m)) (hf2 : ∀ k, k < A.n → k ≠ m → (Free (loc' k) ↔ Free (loc k))) :
    Je A q g cap qa qh B w0 b (kk + 1) (w.setCell ⟨g, m, none⟩ (.int .i64 (-1))) := by
  obtain ⟨m1, m2⟩ := mx_tell hM hL hm (-1)
  refine ⟨_, _, _, _, _, _, _, _, _, _, _, _, _, _, _, _, _, m1, m2, fun k hk => ?_, hs, below_st hb hM.hB (hH _ hL.mem.2.1) m _, hH, he_upf he⟩
  by_cases e : k = m
  · subst e; rw [upf_at]; exact ⟨fun _ => hf, fun _ => rfl⟩
  · rw [upf_ne _ _ _ _ e]; exact (hr k hk).trans (hf2 k hk e).symm
theorem je_took {m : Nat} {v : Int} (hM : Mx A nv nb hd ow l s own st loc' (upf ac kk none) B H w) (hL : Lv q g A.n cap qa qh B H hvv hl L bx fr ac2 w) (hr : ∀ m, m < A.n → (hvv m = -1 ↔ Free (loc m))) (hs : s ≤ b) (hb : Below B w0 w) (hH : ∀ c, c ∈ H → B ≤ c) (he : ∀ i, kk ≤ i → ac i = ac2 i) (hv : 0 ≤ v) (hm : m < A.n) (hf : ¬ Free (loc' m)) (hf2 : ∀ k, k < A.n → k ≠ m → (Free (loc' k) ↔ Free (loc k))) :
    Je A q g cap qa qh B w0 b (kk + 1) (w.setCell ⟨g, m, none⟩ (.int .i64 v)) := by
  obtain ⟨m1, m2⟩ := mx_tell hM hL hm v
  refine ⟨_, _, _, _, _, _, _, _, _, _, _, _, _, _, _, _, _, m1, m2, fun k hk => ?_, hs, below_st hb hM.hB (hH _ hL.mem.2.1) m _, hH, he_upf he⟩
  by_cases e : k = m
  · subst e; rw [upf_at]
    exact ⟨fun e => by omega, fun e => absurd e hf⟩
  · rw [upf_ne _ _ _ _ e]; exact (hr k hk).trans (hf2 k hk e).symm
end
end Go.Proofs.Ytaihmkflhapjeaa

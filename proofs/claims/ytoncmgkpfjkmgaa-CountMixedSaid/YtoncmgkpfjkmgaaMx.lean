/-
  What CountMixed keeps: a count, the reference's numbers, five acts.
-/
import Derived.Test.YtoncmgkpfjkmgaaOpen
namespace Go.Proofs.Ytoncmgkpfjkmgaa
open Go.RowKit Go.MuLone
set_option linter.unusedVariables false
/-- a pointer to an act, or none -/
def ptr : Option Nat → Value
  | none => .pointer none
  | some p => .pointer (some ⟨p, 0, none⟩)
def OKa (nx ac : Int) (lf : Bool) : Prop := (nx = 0 ∨ nx = 1 ∨ nx = 2) ∧ 0 ≤ ac ∧ ac ≤ 5 ∧ (nx = 1 → 2 ≤ ac) ∧ (nx ≠ 2 → lf = false)
structure Mx (q g b pw ap B : Nat) (f : Nat → Option Nat) (y z s y2 z2 : Int) (w0 w : World) : Prop where
  st : St q g b 1 [0, y, z, 0] s w
  wd : w.heap[pw]? = some (.cells #[.int .i64 y2, .int .i64 z2] 42 (0, 0))
  ab : w.heap[ap]? = some (.cells #[ptr (f 0), ptr (f 1), ptr (f 2), ptr (f 3), ptr (f 4)] 45 (0, 0))
  act : ∀ i p, i < 5 → f i = some p → B ≤ p ∧ ∃ nx ac lf, Ac p q nx ac lf w ∧ OKa nx ac lf
  inj : ∀ i j p, i < 5 → j < 5 → f i = some p → f j = some p → i = j
  ge : B ≤ q ∧ B ≤ g ∧ B ≤ b ∧ B ≤ pw ∧ B ≤ ap
  bs : B = w0.heap.size
  bel : Below B w0 w
theorem Mx.sz {q g b pw ap B : Nat} {f : Nat → Option Nat} {y z s y2 z2 : Int} {w0 w : World} (h : Mx q g b pw ap B f y z s y2 z2 w0 w) : B ≤ w.heap.size := by have := h.bel.size; have := h.bs; omega
theorem Mx.gb {q g b pw ap B : Nat} {f : Nat → Option Nat} {y z s y2 z2 : Int} {w0 w : World} (h : Mx q g b pw ap B f y z s y2 z2 w0 w) : pw ≠ g ∧ pw ≠ b ∧ ap ≠ g ∧ ap ≠ b ∧ pw ≠ ap ∧ pw ≠ q ∧ ap ≠ q := by
  obtain ⟨k, c, o, n, d, hm⟩ := h.st.mem
  exact ⟨blk_ty h.wd hm.1 (by decide), blk_ty h.wd hm.2 (by decide), blk_ty h.ab hm.1 (by decide), blk_ty h.ab hm.2 (by decide), blk_ty h.wd h.ab (by decide), blk_ty h.wd h.st.box (by decide), blk_ty h.ab h.st.box (by decide)⟩
theorem Mx.an {q g b pw ap B : Nat} {f : Nat → Option Nat} {y z s y2 z2 : Int} {w0 w : World} (h : Mx q g b pw ap B f y z s y2 z2 w0 w) {p : Nat} {nx ac : Int} {lf : Bool} (ha : Ac p q nx ac lf w) : p ≠ g ∧ p ≠ b ∧ p ≠ q ∧ p ≠ pw ∧ p ≠ ap := by
  have h1 := ha.ne h.st
  exact ⟨h1.1, h1.2.1, h1.2.2, blk_ty ha h.wd (by decide), blk_ty ha h.ab (by decide)⟩
theorem Mx.cg {q g b pw ap B : Nat} {f : Nat → Option Nat} {y z s y2 z2 : Int} {w0 w : World} (h : Mx q g b pw ap B f y z s y2 z2 w0 w) {y' z' s' : Int} {w1 : World} (hs : St q g b 1 [0, y', z', 0] s' w1) (ht : Tw [g, b] w w1) : Mx q g b pw ap B f y' z' s' y2 z2 w0 w1 := by
  have hn := h.gb
  refine ⟨hs, blk_tw h.wd ht (by simp; omega), blk_tw h.ab ht (by simp; omega), fun i p hi hp => ?_, h.inj, h.ge, h.bs, ht.below h.bel (by have := h.ge; simp; omega) h.sz⟩
  obtain ⟨hb, nx, ac, lf, ha, ho⟩ := h.act i p hi hp
  have := h.an ha
  exact ⟨hb, nx, ac, lf, ha.keep ht (by simp; omega), ho⟩
theorem Mx.ds {q g b pw ap B : Nat} {f : Nat → Option Nat} {y z s y2 z2 : Int} {w0 w : World} (h : Mx q g b pw ap B f y z s y2 z2 w0 w) : Mx q g b pw ap B f y z s y2 z2 w0 w.drew :=
  ⟨h.st.dr, h.wd, h.ab, h.act, h.inj, h.ge, h.bs, ⟨h.bel.os, h.bel.tape, h.bel.output, h.bel.size, h.bel.block⟩⟩
/-- a step of an act -/
theorem Mx.stp {q g b pw ap B : Nat} {f : Nat → Option Nat} {y z s y2 z2 : Int} {w0 w : World} (h : Mx q g b pw ap B f y z s y2 z2 w0 w) {i p : Nat} (hi : i < 5) (hp : f i = some p) {nx ac : Int} {lf : Bool} (ha : Ac p q nx ac lf w) {y' z' s' nx' ac' : Int} {lf' : Bool} {w1 : World} (ho : OKa nx' ac' lf') (hf : Af p q g b 1 [0, y', z', 0] s' nx' ac' lf' w w1) : Mx q g b pw ap B f y' z' s' y2 z2 w0 w1 := by
  have hn := h.gb
  have hpn := h.an ha
  have hpb := (h.act i p hi hp).1
  refine ⟨hf.st, blk_tw h.wd hf.tw (by simp; omega), blk_tw h.ab hf.tw (by simp; omega), fun j p2 hj hp2 => ?_, h.inj, h.ge, h.bs, hf.tw.below h.bel (by have := h.ge; simp; omega) h.sz⟩
  obtain ⟨hb, nx2, ac2, lf2, ha2, ho2⟩ := h.act j p2 hj hp2
  by_cases e : p2 = p
  · subst e
    exact ⟨hb, nx', ac', lf', hf.ac, ho⟩
  · have := h.an ha2
    exact ⟨hb, nx2, ac2, lf2, ha2.keep hf.tw (by simp; omega), ho2⟩
/-- a store into the reference's numbers -/
theorem Mx.sw {q g b pw ap B : Nat} {f : Nat → Option Nat} {y z s y2 z2 : Int} {w0 w : World} (h : Mx q g b pw ap B f y z s y2 z2 w0 w) (j : Nat) (v : Value) {y3 z3 : Int} (hv : (#[Value.int .i64 y2, .int .i64 z2] : Array Value).setIfInBounds j v = #[.int .i64 y3, .int .i64 z3]) : Mx q g b pw ap B f y z s y3 z3 w0 (w.setCell ⟨pw, j, none⟩ v) := by
  have hn := h.gb
  have ht : Tw [pw] w (w.setCell ⟨pw, j, none⟩ v) := (Tw.refl [pw] w).st pw (.inl (by simp)) j v
  refine ⟨h.st.keep ht (by simp; omega) (by simp; omega) (by simp; omega), ?_, blk_tw h.ab ht (by simp; omega), fun i p hi hp => ?_, h.inj, h.ge, h.bs, ht.below h.bel (by have := h.ge; simp; omega) h.sz⟩
  · rw [← hv]
    exact blk_set h.wd j v
  · obtain ⟨hb, nx, ac, lf, ha, ho⟩ := h.act i p hi hp
    have := h.an ha
    exact ⟨hb, nx, ac, lf, ha.keep ht (by simp; omega), ho⟩
def upd (f : Nat → Option Nat) (n p : Nat) : Nat → Option Nat := fun i => if i = n then some p else f i
theorem ptr_set (f : Nat → Option Nat) (n p : Nat) (hn : n < 5) : (#[ptr (f 0), ptr (f 1), ptr (f 2), ptr (f 3), ptr (f 4)] : Array Value).setIfInBounds n (.pointer (some ⟨p, 0, none⟩)) = #[ptr (upd f n p 0), ptr (upd f n p 1), ptr (upd f n p 2), ptr (upd f n p 3), ptr (upd f n p 4)] := by
  rcases (by omega : n = 0 ∨ n = 1 ∨ n = 2 ∨ n = 3 ∨ n = 4) with rfl | rfl | rfl | rfl | rfl <;> rfl
/-- a new act -/
theorem Mx.nw {q g b pw ap B : Nat} {f : Nat → Option Nat} {y z s y2 z2 : Int} {w0 w : World} (h : Mx q g b pw ap B f y z s y2 z2 w0 w) {n p : Nat} (hn5 : n < 5) {w1 : World} (hp : w.heap.size ≤ p) (ha : Ac p q 0 0 false w1) (hb : Below w.heap.size w w1) : Mx q g b pw ap B (upd f n p) y z s y2 z2 w0 (w1.setCell ⟨ap, n, none⟩ (.pointer (some ⟨p, 0, none⟩))) := by
  have hn := h.gb
  have hap := lt_hp h.ab
  have ht0 : Tw [ap] w w1 := Tw.of hb
  have ht : Tw [ap] w (w1.setCell ⟨ap, n, none⟩ (.pointer (some ⟨p, 0, none⟩))) := ht0.st ap (.inl (by simp)) n _
  have hbs := h.sz
  refine ⟨h.st.keep ht (by simp; omega) (by simp; omega) (by simp; omega), blk_tw h.wd ht (by simp; omega), ?_, fun i p2 hi hp2 => ?_, fun i j p2 hi hj h1 h2 => ?_, h.ge, h.bs, ht.below h.bel (by have := h.ge; simp; omega) h.sz⟩
  · rw [← ptr_set f n p hn5]
    exact blk_set ((hb.block ap hap).trans h.ab) n _
  · unfold upd at hp2
    by_cases e : i = n
    · rw [if_pos e] at hp2
      injection hp2 with hp2
      subst hp2
      exact ⟨by omega, 0, 0, false, ha.keep ((Tw.refl [ap] w1).st ap (.inl (by simp)) n _) (by simp; omega), .inl rfl, by omega, by omega, by omega, fun _ => rfl⟩
    · rw [if_neg e] at hp2
      obtain ⟨hb2, nx, ac, lf, ha2, ho⟩ := h.act i p2 hi hp2
      have := h.an ha2
      exact ⟨hb2, nx, ac, lf, ha2.keep ht (by simp; omega), ho⟩
  · have old : ∀ i, i < 5 → f i = some p → False := fun i hi hf => by
      obtain ⟨_, nx, ac, lf, ha2, _⟩ := h.act i p hi hf
      have := lt_hp ha2
      omega
    unfold upd at h1 h2
    by_cases e1 : i = n
    · by_cases e2 : j = n
      · omega
      · rw [if_pos e1] at h1
        rw [if_neg e2] at h2
        injection h1 with h1
        subst h1
        exact (old j hj h2).elim
    · rw [if_neg e1] at h1
      by_cases e2 : j = n
      · rw [if_pos e2] at h2
        injection h2 with h2
        subst h2
        exact (old i hi h1).elim
      · rw [if_neg e2] at h2
        exact h.inj i j p2 hi hj h1 h2
theorem Mx.cells {q g b pw ap B : Nat} {f : Nat → Option Nat} {y z s y2 z2 : Int} {w0 w : World} (h : Mx q g b pw ap B f y z s y2 z2 w0 w) : w.cell? ⟨pw, 0, none⟩ = some (.int .i64 y2) ∧ w.cell? ⟨pw, 1, none⟩ = some (.int .i64 z2) ∧ (∀ j, w.frozen? ⟨pw, j, none⟩ = false) ∧ (∀ j, w.frozen? ⟨ap, j, none⟩ = false) ∧ ∀ n, n < 5 → w.cell? ⟨ap, n, none⟩ = some (ptr (f n)) := by
  have h1 := h.wd
  have h2 := h.ab
  refine ⟨(cell_of_row w pw 0 _ 42 _ h.wd).trans rfl, (cell_of_row w pw 1 _ 42 _ h.wd).trans rfl, fun j => by simp [World.frozen?, h1], fun j => by simp [World.frozen?, h2], fun n hn => ?_⟩
  rw [cell_of_row w ap n _ 45 _ h.ab]
  rcases (by omega : n = 0 ∨ n = 1 ∨ n = 2 ∨ n = 3 ∨ n = 4) with rfl | rfl | rfl | rfl | rfl <;> rfl
theorem stepsS (q g b base : Nat) (l : List Int) (s : Int) (w : World) (h : St q g b base l s w) :
    Calls Try.prog 20 #[.pointer (some ⟨g, 0, none⟩)] w fun e w' => e = .returned (.int .i64 s) ∧ St q g b base l s w' ∧ Tw [g, b] w w' := by
  obtain ⟨k, c, o, n, d, hm⟩ := h.mem
  refine (steps_any g b l s k c o n d w hm).mono ?_
  intro e w1 hd
  exact h.did hd rfl
theorem mx_steps {q g b pw ap B : Nat} {f : Nat → Option Nat} {y z s y2 z2 : Int} {w0 w : World} (h : Mx q g b pw ap B f y z s y2 z2 w0 w) :
    Calls Try.prog 20 #[.pointer (some ⟨g, 0, none⟩)] w fun e w' => e = .returned (.int .i64 s) ∧ Mx q g b pw ap B f y z s y2 z2 w0 w' := by
  refine (stepsS q g b 1 _ s w h.st).mono ?_
  rintro e w1 ⟨rfl, h1, h2⟩
  exact ⟨rfl, h.cg h1 h2⟩
theorem mx_now {q g b pw ap B : Nat} {f : Nat → Option Nat} {y z s y2 z2 : Int} {w0 w : World} (h : Mx q g b pw ap B f y z s y2 z2 w0 w) :
    Calls Try.prog 10 #[.pointer (some ⟨q, 0, none⟩)] w fun e w' => e = .returned (.tuple #[.int .i64 y, .int .i64 z]) ∧ Mx q g b pw ap B f y z s y2 z2 w0 w' := by
  have := now_any q g b 1 [0, y, z, 0] s w h.st
  rw [show (1 : Nat) + 1 = 2 from rfl, n41, n42] at this
  refine this.mono ?_
  rintro e w1 ⟨rfl, h1, h2⟩
  exact ⟨rfl, h.cg h1 h2⟩
theorem mx_open {q g b pw ap B : Nat} {f : Nat → Option Nat} {y z s y2 z2 : Int} {w0 w : World} (s0 : 0 ≤ s) (s1 : s ≤ 1000000) (h : Mx q g b pw ap B f y z s y2 z2 w0 w) :
    Calls Try.prog 12 #[.pointer (some ⟨q, 0, none⟩)] w fun e w' => e = .returned (.int .i64 y) ∧ Mx q g b pw ap B f y z (s + 1) y2 z2 w0 w' := by
  have := openN_any q g b 1 [0, y, z, 0] s s0 s1 w h.st
  rw [n41] at this
  refine this.mono ?_
  rintro e w1 ⟨rfl, h1, h2⟩
  exact ⟨rfl, h.cg h1 h2⟩
theorem mx_work {q g b pw ap B : Nat} {f : Nat → Option Nat} {y z s y2 z2 : Int} {w0 w : World} (s0 : 0 ≤ s) (s1 : s ≤ 1000000) (h : Mx q g b pw ap B f y z s y2 z2 w0 w) :
    Calls Try.prog 13 #[.pointer (some ⟨q, 0, none⟩)] w fun e w' => e = .returned (.int .i64 z) ∧ Mx q g b pw ap B f y z (s + 1) y2 z2 w0 w' := by
  have := workingN_any q g b 1 [0, y, z, 0] s s0 s1 w h.st
  rw [show (1 : Nat) + 1 = 2 from rfl, n42] at this
  refine this.mono ?_
  rintro e w1 ⟨rfl, h1, h2⟩
  exact ⟨rfl, h.cg h1 h2⟩
theorem mx_more {q g b pw ap B : Nat} {f : Nat → Option Nat} {y z s y2 z2 : Int} {w0 w : World} (d : Int) (d0 : -10 ≤ d) (d1 : d ≤ 10) (y0 : -10000 ≤ y) (y1 : y ≤ 10000) (s0 : 0 ≤ s) (s1 : s ≤ 1000000) (h : Mx q g b pw ap B f y z s y2 z2 w0 w) :
    Calls Try.prog 9 #[.pointer (some ⟨q, 0, none⟩), .int .i64 d] w fun e w' => e = .returned (.tuple #[]) ∧ Mx q g b pw ap B f (y + d) z (s + 1) y2 z2 w0 w' := by
  have := more_any q g b 1 [0, y, z, 0] s d (by rw [n41]; unfold I64; omega) (by unfold I64; omega) (by rw [n41]; unfold I64; omega) s0 s1 w h.st
  rw [n41, show [0, y, z, 0].set 1 (y + d) = [0, y + d, z, 0] from rfl] at this
  refine this.mono ?_
  rintro e w1 ⟨rfl, h1, h2⟩
  exact ⟨rfl, h.cg h1 h2⟩
/-- a Step of an act that isn't over: three ways -/
theorem mx_step {q g b pw ap B : Nat} {f : Nat → Option Nat} {y z s y2 z2 : Int} {w0 w : World} (z0 : 1 ≤ z) (z1 : z ≤ 5) (s0 : 0 ≤ s) (s1 : s ≤ 1000000) (h : Mx q g b pw ap B f y z s y2 z2 w0 w) {i p : Nat} (hi : i < 5) (hp : f i = some p) {nx ac : Int} {lf : Bool} (ha : Ac p q nx ac lf w) (ho : OKa nx ac lf) (hnx : nx ≠ 2) :
    ∃ (r lf' : Bool) (z' nx' ac' : Int), ((r = false ∧ z' = z) ∨ (r = true ∧ lf' = false ∧ z' = z) ∨ (r = true ∧ lf' = true ∧ z' = z - 1)) ∧ 1 ≤ z' ∧ z' ≤ 5 ∧
    Calls Try.prog 16 #[.pointer (some ⟨p, 0, none⟩)] w fun e w' => e = .returned (.bool r) ∧ Ac p q nx' ac' lf' w' ∧ Mx q g b pw ap B f y z' (s + 1) y2 z2 w0 w' := by
  obtain ⟨o1, o2, o3, o4, o5⟩ := ho
  have G := step_gen p q g b y z s nx ac lf o1 o2 (by omega) s0 s1 w h.st ha
  unfold stN stA stL stZ stS at G
  have hlf := o5 hnx
  subst hlf
  rcases o1 with rfl | rfl | rfl
  · by_cases hz : z ≤ 1
    · refine ⟨true, false, z, 2, z, .inr (.inl ⟨rfl, rfl, rfl⟩), z0, z1, G.mono ?_⟩
      simp [hz]
      rintro e w1 rfl hf
      exact ⟨rfl, hf.ac, h.stp hi hp ha ⟨.inr (.inr rfl), by omega, by omega, by omega, fun _ => rfl⟩ hf⟩
    · refine ⟨false, false, z, 1, z, .inl ⟨rfl, rfl⟩, z0, z1, G.mono ?_⟩
      simp [hz]
      rintro e w1 rfl hf
      exact ⟨rfl, hf.ac, h.stp hi hp ha ⟨.inr (.inl rfl), by omega, by omega, by omega, fun _ => rfl⟩ hf⟩
  · by_cases hz : z = ac
    · refine ⟨true, true, z - 1, 2, ac, .inr (.inr ⟨rfl, rfl, rfl⟩), by have := o4 rfl; omega, by omega, G.mono ?_⟩
      simp [hz]
      rintro e w1 rfl hf
      exact ⟨rfl, hf.ac, h.stp hi hp ha ⟨.inr (.inr rfl), by omega, by omega, by omega, by omega⟩ hf⟩
    · refine ⟨false, false, z, 0, ac, .inl ⟨rfl, rfl⟩, z0, z1, G.mono ?_⟩
      simp [hz]
      rintro e w1 rfl hf
      exact ⟨rfl, hf.ac, h.stp hi hp ha ⟨.inl rfl, by omega, by omega, by omega, fun _ => rfl⟩ hf⟩
  · exact absurd rfl hnx
end Go.Proofs.Ytoncmgkpfjkmgaa

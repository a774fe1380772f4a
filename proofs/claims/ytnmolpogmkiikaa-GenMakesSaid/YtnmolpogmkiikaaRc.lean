/-
  Where the reference's Make stands at an assignment or a tour: rows in blocks of their own, listed in one of their own.
-/
import Derived.Test.YtnmolpogmkiikaaMk
namespace Go.Proofs.Ytnmolpogmkiikaa
open Go.RowKit
set_option linter.unusedVariables false
def tl2 (gs cs : Nat → Nat) (n a : Nat) : List Value := (List.range a).map fun j => .slice (some ⟨gs j, 0, none⟩) n (cs j)
def rp (t : Bool) (m s : Int) (n a b : Nat) : List Value := (List.range b).map fun j => .int .i64 (ent t m s n a j)
theorem tl2_len (gs cs : Nat → Nat) (n a : Nat) : (tl2 gs cs n a).length = a := by simp [tl2]
theorem tl2_zero (gs cs : Nat → Nat) (n : Nat) : tl2 gs cs n 0 = [] := rfl
theorem tl2_at (gs cs : Nat → Nat) (n a j : Nat) (h : j < a) : (tl2 gs cs n a)[j]? = some (.slice (some ⟨gs j, 0, none⟩) n (cs j)) := by simp [tl2, h]
theorem tl2_next (gs cs : Nat → Nat) (n a g c : Nat) : tl2 gs cs n a ++ [.slice (some ⟨g, 0, none⟩) n c] = tl2 (fun j => if j = a then g else gs j) (fun j => if j = a then c else cs j) n (a + 1) := by
  unfold tl2
  rw [List.range_succ, List.map_append]
  congr 1
  · apply List.map_congr_left
    intro j hj
    have : ¬ j = a := by have : j < a := by simpa using hj
                         omega
    simp [this]
  · simp
theorem rp_zero (t : Bool) (m s : Int) (n a : Nat) : rp t m s n a 0 = [] := rfl
theorem rp_next (t : Bool) (m s : Int) (n a b : Nat) : rp t m s n a (b + 1) = rp t m s n a b ++ [.int .i64 (ent t m s n a b)] := by simp [rp, List.range_succ]
theorem rp_all (t : Bool) (m s : Int) (n a : Nat) : rp t m s n a n = enc (EL t m s n a) := by simp [rp, enc, EL, Function.comp_def]
attribute [irreducible] tl2 rp
structure RC (t : Bool) (m s : Int) (K : Int) (n gr gi B : Nat) (w : World) (a : Nat) (vC : Value) (gs cs : Nat → Nat) (wr : World) : Prop where
  box : wr.heap[gi]? = some (.cells #[.int .i64 K, .int .i64 n, .int .i64 0, .slice none 0 0, .slice none 0 0, vC] 32 (0, 0))
  res : wr.heap[gr]? = some (.cells #[.int .i64 0, .int .i64 0, .int .i64 0, .slice none 0 0, .slice none 0 0, .slice none 0 0] 32 (0, 0))
  top : wr.ownsRow B 29 1 vC a (tl2 gs cs n a)
  rows : ∀ j, j < a → wr.ownsRow B 3 1 (.slice (some ⟨gs j, 0, none⟩) n (cs j)) n (enc (EL t m s n j))
  below : Below w.heap.size w wr
  sz : B ≤ wr.heap.size
  lo : gi < B
  lor : gr < B
  ne : gr ≠ gi
  base : w.heap.size ≤ gi
  baser : w.heap.size ≤ gr
theorem RC.alloc {t : Bool} {m s K : Int} {n gr gi B : Nat} {w : World} {a : Nat} {vC : Value} {gs cs : Nat → Nat} {wr : World} (h : RC t m s K n gr gi B w a vC gs cs wr) (o : Obj) : RC t m s K n gr gi B w a vC gs cs (wr.alloc o) := by
  have hb := fun k (hk : k < wr.heap.size) => Below.heap_alloc wr o k hk
  exact ⟨(hb gi (lt_hp h.box)).trans h.box, (hb gr (lt_hp h.res)).trans h.res, h.top.alloc o, fun j hj => (h.rows j hj).alloc o, h.below.alloc h.below.size o, by rw [World.size_alloc]; have := h.sz; omega, h.lo, h.lor, h.ne, h.base, h.baser⟩
/-- a number behind the row that grows -/
theorem RC.grow {t : Bool} {m s K : Int} {n gr gi B : Nat} {w : World} {a : Nat} {vC : Value} {gs cs : Nat → Nat} {wr w1 : World} (h : RC t m s K n gr gi B w a vC gs cs wr) {v : Value} {k : Nat} {xs : List Value} (hr : wr.ownsRow B 3 1 v k xs) (hg : wr.grownBy w1 v.ownBlock) (hap : ∀ j, j < a → v.ownBlock ≠ some (gs j)) : RC t m s K n gr gi B w a vC gs cs w1 := by
  have hbase := h.base
  have hlo := h.lo
  refine ⟨(hg.block gi (lt_hp h.box) (fun e => row_ne hr h.box (by decide) e.symm)).trans h.box, (hg.block gr (lt_hp h.res) (fun e => row_ne hr h.res (by decide) e.symm)).trans h.res, ?_, fun j hj => (h.rows j hj).kept hg (.inr (fun e => hap j hj (e.symm.trans rfl))), h.below.grown hg h.below.size (fun k hk => by have := (hr.lt k hk).1; omega), Nat.le_trans h.sz hg.size, h.lo, h.lor, h.ne, h.base, h.baser⟩
  cases e : v.ownBlock with
  | none =>
    rw [e] at hg
    cases e2 : vC.ownBlock with
    | none => exact h.top.kept hg (.inl e2)
    | some y => exact h.top.kept hg (.inr (by rw [e2]; simp))
  | some x =>
    obtain ⟨cur, hc⟩ := row_kind hr e
    rw [e] at hg
    exact h.top.kept hg (.inr (row_neE h.top hc (by decide)))
/-- the row is put behind the others -/
theorem RC.put {t : Bool} {m s K : Int} {n gr gi B : Nat} {w : World} {a : Nat} {vC : Value} {gs cs : Nat → Nat} {wr w1 : World} (h : RC t m s K n gr gi B w a vC gs cs wr) {g c : Nat} (hr : wr.ownsRow B 3 1 (.slice (some ⟨g, 0, none⟩) n c) n (enc (EL t m s n a))) {v' : Value}
    (hown : w1.ownsRow B 29 1 v' (a + 1) (tl2 gs cs n a ++ [.slice (some ⟨g, 0, none⟩) n c])) (hg : wr.grownBy w1 vC.ownBlock) :
    RC t m s K n gr gi B w (a + 1) v' (fun j => if j = a then g else gs j) (fun j => if j = a then c else cs j) (w1.setCell ⟨gi, 5, none⟩ v') := by
  have hbase := h.base
  have hlo := h.lo
  have q1 := (hg.block gi (lt_hp h.box) (fun e => row_neE h.top h.box (by decide) e.symm)).trans h.box
  have q2 := (hg.block gr (lt_hp h.res) (fun e => row_neE h.top h.res (by decide) e.symm)).trans h.res
  have kp : ∀ {v : Value} {k : Nat} {xs : List Value}, wr.ownsRow B 3 1 v k xs → (w1.setCell ⟨gi, 5, none⟩ v').ownsRow B 3 1 v k xs := fun {v k xs} hv => by
    refine Go.RowKit.ownsRow_setCell_below ?_ hlo _
    cases e : v.ownBlock with
    | none => exact hv.kept hg (.inl e)
    | some x =>
      obtain ⟨cur, hc⟩ := row_kind hv e
      exact hv.kept hg (.inr (by rw [e]; exact fun q => row_neE h.top hc (by decide) q.symm))
  refine ⟨heap_setCell_same w1 gi 5 _ 32 v' q1, (heap_setCell_other w1 ⟨gi, 5, none⟩ gr v' h.ne).trans q2, ?_, fun j hj => ?_, (h.below.grown hg h.below.size (fun k hk => by have := (h.top.lt k hk).1; omega)).setCell (p := ⟨gi, 5, none⟩) h.base _, by simpa [World.setCell] using Nat.le_trans h.sz hg.size, h.lo, h.lor, h.ne, h.base, h.baser⟩
  · rw [← tl2_next]
    exact Go.RowKit.ownsRow_setCell_below hown hlo _
  · by_cases e : j = a
    · subst e; simpa using kp hr
    · simp only [e, if_false]
      exact kp (h.rows j (by omega))
end Go.Proofs.Ytnmolpogmkiikaa

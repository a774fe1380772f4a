/-
  cert: the reference's Read: how it goes on, how it ends.
-/
import Derived.Test.YtjajpmbmkagcaaaDoorCj
import Derived.Test.YtjajpmbmkagcaaaDoorCi
namespace Go.Proofs.YtjajpmbmkagcaaaDoor
open Go.RowKit
set_option linter.unusedVariables false
/-- the reference's box -/
def DB (c : Nat) (V : Int) (v : Value) (T : ByteArray) (w : World) : Prop := w.heap[c]? = some (.cells #[.int .i64 V, v, .string T] 24 (0, 0))
section
variable {c : Nat} {V : Int} {v : Value} {T : ByteArray} {w w1 : World}
theorem DB.cells (h : DB c V v T w) : w.cell? ⟨c, 0, none⟩ = some (.int .i64 V) ∧ w.cell? ⟨c, 1, none⟩ = some v ∧ w.cell? ⟨c, 2, none⟩ = some (.string T) ∧ ∀ j, w.frozen? ⟨c, j, none⟩ = false :=
  ⟨(cell_of_row w c 0 _ 24 _ h).trans rfl, (cell_of_row w c 1 _ 24 _ h).trans rfl, (cell_of_row w c 2 _ 24 _ h).trans rfl, fun j => by simp [World.frozen?, show w.heap[c]? = _ from h]⟩
theorem DB.keep {S : List Nat} (h : DB c V v T w) (k : Tw S w w1) (hc : c ∉ S) : DB c V v T w1 := blk_tw h k hc
theorem DB.s0 (h : DB c V v T w) (x : Int) : DB c x v T (w.setCell ⟨c, 0, none⟩ (.int .i64 x)) := (blk_set h 0 _).trans rfl
theorem DB.s1 (h : DB c V v T w) (x : Value) : DB c V x T (w.setCell ⟨c, 1, none⟩ x) := (blk_set h 1 _).trans rfl
theorem DB.s2 (h : DB c V v T w) (x : ByteArray) : DB c V v x (w.setCell ⟨c, 2, none⟩ (.string x)) := (blk_set h 2 _).trans rfl
end

abbrev D0 : Obj := .cells #[.int .i64 0, .slice none 0 0, .string ⟨#[]⟩] 24
/-- a struct stored whole -/
def put3 (c : Nat) (V : Int) (v : Value) (T : ByteArray) (X : World) : World := ((X.setCell ⟨c, 0, none⟩ (.int .i64 V)).setCell ⟨c, 1, none⟩ v).setCell ⟨c, 2, none⟩ (.string T)
theorem put3_tw (c : Nat) (V : Int) (v : Value) (T : ByteArray) (X : World) : Tw [c] X (put3 c V v T X) := (((Tw.refl [c] X).st c (.inl (by simp)) 0 (.int .i64 V)).st c (.inl (by simp)) 1 v).st c (.inl (by simp)) 2 (.string T)
theorem DB.put {c : Nat} {V : Int} {v : Value} {T : ByteArray} {X : World} (h : DB c V v T X) (V' : Int) (v' : Value) (T' : ByteArray) : DB c V' v' T' (put3 c V' v' T' X) := ((h.s0 V').s1 v').s2 T'
theorem rd_err {s : ByteArray} {w X : World} {a : Nat} {e : Int} (he : e ≠ 0) (hE : crE s = (a, e)) (W : Below w.heap.size w X) (R : DB w.heap.size 0 (.slice none 0 0) ⟨#[]⟩ X) :
    RdP s w (.returned (.tuple #[.agg #[.int .i64 0, .slice none 0 0, .string ⟨#[]⟩], .int .i64 (a : Int), .int .i64 e])) (put3 w.heap.size 0 (.slice none 0 0) ⟨#[]⟩ X) ∧ DB w.heap.size 0 (.slice none 0 0) ⟨#[]⟩ (put3 w.heap.size 0 (.slice none 0 0) ⟨#[]⟩ X) := by
  refine ⟨⟨0, .slice none 0 0, ⟨#[]⟩, [], ?_, Tw.below W (put3_tw _ _ _ _ _) (fun i hi => by simp at hi; omega) W.size, ol_nil _ _, fun h => absurd (by rw [hE] at h; exact h) he, fun _ => ⟨rfl, rfl, rfl, rfl⟩⟩, R.put _ _ _⟩
  rw [hE, if_neg he]
theorem rd_ok {s : ByteArray} {w X : World} {V : Int} {v : Value} {T : ByteArray} {L : List Int} (hE : (crE s).2 = 0) (hV : V = nmv s (cr0 s).1 ∧ L = elv s (crn s) ∧ T = treV s (cr5 s)) (W : Below w.heap.size w X) (R : DB w.heap.size 0 (.slice none 0 0) ⟨#[]⟩ X) (O : Ol w.heap.size v L X) :
    RdP s w (.returned (.tuple #[.agg #[.int .i64 V, v, .string T], .int .i64 0, .int .i64 0])) (put3 w.heap.size V v T X) ∧ DB w.heap.size V v T (put3 w.heap.size V v T X) := by
  refine ⟨⟨V, v, T, L, ?_, Tw.below W (put3_tw _ _ _ _ _) (fun i hi => by simp at hi; omega) W.size, O.keep (put3_tw _ _ _ _ _) (fun i hi => by simp at hi; subst hi; exact O.far R (by decide)), fun _ => hV, fun h => absurd hE h⟩, R.put _ _ _⟩
  rw [if_pos hE, hE]
theorem c0_step {s : ByteArray} {b k : Nat} (hk : k < 5) (h : sgv s k (qC.get! k).toNat = 0) : pff s qC 0 (b + 1) k = pff s qC 0 b (k + 1) := by
  refine pff_step s qC 0 b k ⟨hk, ?_⟩
  unfold sgv at h
  rw [Nat.zero_add]
  split at h
  · exact absurd h (by decide)
  · split at h
    · rename_i h1 h2
      exact ⟨by omega, UInt8.toNat_inj.mp h2⟩
    · exact absurd h (by decide)
theorem c0_err {s : ByteArray} {b k : Nat} (hk : k < 5) (hp : pff s qC 0 b k = pf s qC 0) (h : sgv s k (qC.get! k).toNat ≠ 0) : cr0 s = (k, sgv s k (qC.get! k).toNat) := by
  have e : pf s qC 0 = k := by
    rw [← hp]
    refine pff_stop s qC 0 b k (fun c => h ?_)
    obtain ⟨_, c2, c3⟩ := c
    rw [Nat.zero_add] at c2 c3
    unfold sgv
    rw [if_neg (by omega), if_pos (by rw [c3])]
  show (0 + pf s qC 0, pfe s qC 0) = _
  have q5 : qC.size = 5 := rfl
  unfold pfe
  rw [e, q5, if_neg (by omega), Nat.zero_add]
  unfold sgv at *
  by_cases c : k < s.size
  · rw [if_pos c, if_neg (by omega)]
    rw [if_neg (by omega)] at h
    split at h
    · exact absurd rfl h
    · rename_i h2
      rw [if_neg h2]
  · rw [if_neg c, if_pos (by omega)]
theorem c0_ok {s : ByteArray} {b : Nat} (hp : pff s qC 0 b 5 = pf s qC 0) : cr0 s = (5, 0) := by
  have e : pf s qC 0 = 5 := by
    rw [← hp]
    exact pff_stop s qC 0 b 5 (fun c => by have := c.1; have q5 : qC.size = 5 := rfl; omega)
  show (0 + pf s qC 0, pfe s qC 0) = _
  have q5 : qC.size = 5 := rfl
  unfold pfe
  rw [e, q5, if_pos rfl]
end Go.Proofs.YtjajpmbmkagcaaaDoor

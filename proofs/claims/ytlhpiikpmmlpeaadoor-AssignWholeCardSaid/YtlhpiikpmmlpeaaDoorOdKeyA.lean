/-
  What order.ByKey and the reference's ByKey answer.
-/
import Derived.Test.YtlhpiikpmmlpeaaDoorOdStabA
import Derived.Test.YtlhpiikpmmlpeaaDoorOdRkM
import Derived.Test.YtlhpiikpmmlpeaaDoorOdOne
import Derived.Test.YtlhpiikpmmlpeaaDoorOdCross
namespace Go.Proofs.YtlhpiikpmmlpeaaDoor.od
open Go.RowKit
set_option linter.unusedVariables false
/-- how ByKey compares two places -/
def ckey (l : List Int) (x y : Int) : Int := cmpv (nth l x.toNat) (nth l y.toNat)
theorem ckey_bd (l : List Int) (x y : Int) : -1 ≤ ckey l x y ∧ ckey l x y ≤ 1 := by
  unfold ckey
  rcases (show nth l x.toNat < nth l y.toNat ∨ nth l y.toNat < nth l x.toNat ∨ nth l x.toNat = nth l y.toNat by omega) with h | h | h
  · rw [cmpv_lt h]; omega
  · rw [cmpv_gt h]; omega
  · rw [cmpv_eq h]; omega
/-- which place stands ahead -/
def ltK (l : List Int) (b a : Nat) : Bool := decide (nth l b < nth l a) || (decide (nth l b = nth l a) && decide (b < a))
theorem ltK_iff (l : List Int) (b a : Nat) : ltK l b a = true ↔ nth l b < nth l a ∨ (nth l b = nth l a ∧ b < a) := by unfold ltK; simp
theorem ltK_ord (n : Nat) (l : List Int) : LtO n (ltK l) :=
  ⟨fun a _ h => by rw [ltK_iff] at h; omega, fun a b c _ _ _ h k => by rw [ltK_iff] at *; omega, fun a b _ _ h => by rw [ltK_iff, ltK_iff]; omega⟩
theorem ckey_lt (l : List Int) (x y : Nat) (h : x < y) : ckey l y x < 0 ↔ ltK l y x = true := by
  rw [ltK_iff]
  unfold ckey
  simp only [Int.toNat_natCast]
  rcases (show nth l y < nth l x ∨ nth l x < nth l y ∨ nth l y = nth l x by omega) with q | q | q
  · rw [cmpv_lt q]; omega
  · rw [cmpv_gt q]; omega
  · rw [cmpv_eq q]; omega
attribute [irreducible] ckey ltK
theorem ckey_eq (l : List Int) (x y : Int) : ckey l x y = cmpv (nth l x.toNat) (nth l y.toNat) := by unfold ckey; rfl
set_option maxRecDepth 100000 in
set_option maxHeartbeats 2000000 in
theorem closA_any (v : List Int) (hn : v.length ≤ 1000) (bv : Nat) (va : Option Addr) (vc : Nat) (W : World)
    (hbv : W.cell? ⟨bv, 0, none⟩ = some (.slice va v.length vc)) (h2 : Ints W va v)
    (x y : Int) (x0 : 0 ≤ x) (x1 : x < v.length) (y0 : 0 ≤ y) (y1 : y < v.length) :
    Calls Tryd.prog 52 #[.int .i64 x, .int .i64 y, .pointer (some ⟨bv, 0, none⟩)] W fun e w' => e = .returned (.int .i64 (ckey v x y)) ∧ Below W.heap.size W w' := by
  obtain ⟨b2, o2, rfl, l2, cvx⟩ := h2 x.toNat (by omega)
  obtain ⟨b2', o2', e2, _, cvy⟩ := h2 y.toNat (by omega)
  simp only [Option.some.injEq, Addr.mk.injEq, and_true] at e2
  obtain ⟨rfl, rfl⟩ := e2
  rw [ckey_eq]
  have HCM : Hid (∀ X, Calls Tryd.prog 53 #[.int .i64 (nth v x.toNat), .int .i64 (nth v y.toNat)] X fun e w' => e = .returned (.int .i64 (cmpv (nth v x.toNat) (nth v y.toNat))) ∧ w' = X) := fun X => (cmp_int (nth v x.toNat) (nth v y.toNat) X).mono fun _ _ h => ⟨h.1, h.2.symm⟩
  clear h2
  generalize cmpv (nth v x.toNat) (nth v y.toNat) = r at *
  generalize v.length = n at *
  generalize nth v x.toNat = vx at *
  generalize nth v y.toNat = vy at *
  go_enter Tryd.func52, Tryd.ntmps52
  go_wp2
  go_quiet ((go_at_call 53; exact Calls.quiet_of_same (HCM.out _)))
  go_wp2
  go_ret
  exact ⟨rfl, bl_dn (Below.refl _ _) _⟩
/-- what both answer -/
def KeyP (l : List Int) (W : World) (e : Ending) (W' : World) : Prop := ∃ (g cap : Nat) (T : List Int), e = .returned (.slice (some ⟨g, 0, none⟩) l.length cap) ∧ IsRk (ltK l) l.length T ∧ OnRk (ltK l) l.length T ∧ Ints W' (some ⟨g, 0, none⟩) T ∧ Below W.heap.size W W'
theorem keyP_of (l : List Int) (W : World) {w w' : World} {g : Nat} {Z : List Int} {e : Ending} (he : e = .returned (.slice (some ⟨g, 0, none⟩) l.length l.length)) (ho : Own W.heap.size g l.length l.length Z W w')
    (hz : ∀ a, a < l.length → nth Z (rko (ltK l) l.length a) = (a : Int)) : ∃ Z, e = .returned (.slice (some ⟨g, 0, none⟩) l.length l.length) ∧ IsRk (ltK l) l.length Z ∧ Ints w' (some ⟨g, 0, none⟩) Z ∧ Below W.heap.size W w' :=
  ⟨Z, he, ⟨ho.1, hz⟩, ho.ints, ho.2.2.2⟩
end Go.Proofs.YtlhpiikpmmlpeaaDoor.od

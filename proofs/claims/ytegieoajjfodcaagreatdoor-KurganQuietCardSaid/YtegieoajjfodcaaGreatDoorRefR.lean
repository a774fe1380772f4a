/-
  What the reference's Read answers: what the package's does, for every text of at most 1000000 bytes and every place in it.
-/
import Derived.Test.YtegieoajjfodcaaGreatDoorRead
namespace Go.Proofs.YtegieoajjfodcaaGreatDoor
open Go.RowKit
set_option linter.unusedVariables false

theorem vi {x y : Int} (h : x = y) : Value.int .i64 x = .int .i64 y := by rw [h]
theorem size_sub (s : ByteArray) (a : Nat) (ha : a ≤ s.size) : (s.extract a s.size).size = s.size - a := by simp
theorem get_subk (s : ByteArray) (a k : Nat) (h : a + k < s.size) : (s.extract a s.size).get! k = s.get! (a + k) := by
  have h' : k < (s.extract a s.size).size := by rw [size_sub s a (by omega)]; omega
  rw [get_of _ k h', get_of s _ h, ByteArray.getElem_extract]
theorem isd_sub (s t : ByteArray) (a k e : Nat) (ht : s.extract a s.size = t) (ha : a ≤ s.size) (he : e = a + k) (hlt : e < s.size) : isd t k ↔ 48 ≤ (s[e]'hlt).toNat ∧ (s[e]'hlt).toNat ≤ 57 := by
  subst he
  unfold isd
  rw [← ht, size_sub s a ha, get_subk s a k hlt, get_of s _ hlt]
  constructor
  · exact fun h => h.2
  · exact fun h => ⟨by omega, h⟩
theorem isd_lt {t : ByteArray} {k : Nat} (h : isd t k) : k < t.size := by unfold isd at h; exact h.1

theorem ret3 {x y z : Int} {r : Int × Int × Int} (h : (x, y, z) = r) : Ending.returned (.tuple #[.int .i64 x, .int .i64 y, .int .i64 z]) = .returned (.tuple #[.int .i64 r.1, .int .i64 r.2.1, .int .i64 r.2.2]) := by
  subst h; rfl
theorem fin_eq (t : ByteArray) {i k : Nat} {x y : Int} (h : i = k) (g : x = y) : (dv t i, x, (0 : Int)) = (dv t k, y, 0) := by rw [h, g]
def R1 (t : ByteArray) (a n : Nat) (w : World) (v : Value) (wr : World) : Prop :=
  wr = w ∧ ∃ e k b : Nat, Hid (e = a + k) ∧ v = .int .i64 (e : Int) ∧ Hid (ndf t b k = nd t) ∧ e ≤ n ∧ n ≤ e + b ∧ a ≤ e ∧ Hid (∀ j, j < k → isd t j)
def R2 (t : ByteArray) (a k : Nat) (w : World) (v u : Value) (wr : World) : Prop :=
  wr = w ∧ ∃ e i : Nat, Hid (e = a + i) ∧ u = .int .i64 (e : Int) ∧ v = .int .i64 (dv t i) ∧ e ≤ a + k ∧ a ≤ e
end Go.Proofs.YtegieoajjfodcaaGreatDoor

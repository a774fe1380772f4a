/-
  What the functions Kind, Place and Signs of the package digit answer, for every sign and every text, told by the model's own reading of a text rune by rune.
-/
import Derived.Test.YtegieoajjfodcaaGreatDoorProg
import Derived.WalkKit
import Derived.ProofKit
import Derived.WalkSpells
import Derived.WalkLawsBesides
import Derived.Laws.RangeAny
import Derived.Lib.Hide
import Derived.Below
import Derived.IntWalk
namespace Go.Proofs.YtegieoajjfodcaaGreatDoor
open Go.RowKit
set_option linter.unusedVariables false

theorem bl_al {a w : World} (h : Below a.heap.size a w) (o : Obj) : Below a.heap.size a (w.alloc o) := h.alloc h.size o
theorem bl_tr {a w w' : World} (h : Below a.heap.size a w) (k : Below w.heap.size w w') : Below a.heap.size a w' := h.trans (k.mono h.size)
theorem bl_dn {B : Nat} {a w : World} (h : Below B a w) (n : Nat) : Below B a (w.drewN n) := ⟨h.os, h.tape, h.output, h.size, h.block⟩
theorem bl_it (w : World) (s : ByteArray) (p : Nat) : Below w.heap.size w (w.iter s p) := by
  unfold World.iter
  exact bl_al (Below.refl _ _) _

/-- the kind of a sign -/
def kindv (r : Int) : Int := if r = 32 ∨ r = 9 ∨ r = 10 ∨ r = 13 then 1 else if 48 ≤ r ∧ r ≤ 57 then 2 else if (65 ≤ r ∧ r ≤ 90) ∨ (97 ≤ r ∧ r ≤ 122) then 3 else if r = 35 then 4 else 0
theorem ret_int {k : IntKind} {a b : Int} (h : a = b) : Ending.returned (.int k a) = .returned (.int k b) := by rw [h]
theorem kind_any (r : Int) (r1 : -2147483648 ≤ r) (r2 : r ≤ 2147483647) (w : World) :
    Calls Tryz.prog 37 #[.int .i32 r] w fun e w' => e = .returned (.int .i64 (kindv r)) ∧ w = w' := by
  by_cases hb : r = 32 ∨ r = 9 ∨ r = 10 ∨ r = 13
  · have hk : kindv r = 1 := by unfold kindv; rw [if_pos hb]
    rw [hk]
    rcases hb with rfl | rfl | rfl | rfl
    all_goals
      go_enter Tryz.func37, Tryz.ntmps37
      go_wp2
      go_ret
      exact ⟨rfl, rfl⟩
  · have b1 : (r == 32) = false := by simp; omega
    have b2 : (r == 9) = false := by simp; omega
    have b3 : (r == 10) = false := by simp; omega
    have b4 : (r == 13) = false := by simp; omega
    by_cases hd : 48 ≤ r ∧ r ≤ 57
    · have hk : kindv r = 2 := by unfold kindv; rw [if_neg hb, if_pos hd]
      obtain ⟨d1, d2⟩ := hd
      rw [hk]; clear hk hb
      go_enter Tryz.func37, Tryz.ntmps37
      go_wp2
      go_ret
      exact ⟨rfl, rfl⟩
    · by_cases hl : (65 ≤ r ∧ r ≤ 90) ∨ (97 ≤ r ∧ r ≤ 122)
      · have hk : kindv r = 3 := by unfold kindv; rw [if_neg hb, if_neg hd, if_pos hl]
        rw [hk]; clear hk hb hd
        rcases hl with ⟨l1, l2⟩ | ⟨l1, l2⟩
        all_goals
          go_enter Tryz.func37, Tryz.ntmps37
          go_wp2
          go_ret
          exact ⟨rfl, rfl⟩
      · by_cases hr : r = 35
        · have hk : kindv r = 4 := by unfold kindv; rw [if_neg hb, if_neg hd, if_neg hl, if_pos hr]
          rw [hk]; subst hr; clear hk hb hd hl
          go_enter Tryz.func37, Tryz.ntmps37
          go_wp2
          go_ret
          exact ⟨rfl, rfl⟩
        · have hk : kindv r = 0 := by unfold kindv; rw [if_neg hb, if_neg hd, if_neg hl, if_neg hr]
          have b5 : (r == 35) = false := by simp; omega
          rw [hk]; clear hk hb
          rcases Int.lt_or_le r 48 with c1 | c1
          · clear hd hl hr
            go_enter Tryz.func37, Tryz.ntmps37
            go_wp2
            go_ret
            exact ⟨rfl, rfl⟩
          · rcases Int.lt_or_le r 65 with c2 | c2
            · have c3 : 57 < r := by omega
              clear hd hl hr
              go_enter Tryz.func37, Tryz.ntmps37
              go_wp2
              go_ret
              exact ⟨rfl, rfl⟩
            · rcases Int.lt_or_le r 97 with c4 | c4
              · have c5 : 90 < r := by omega
                clear hd hl hr
                go_enter Tryz.func37, Tryz.ntmps37
                go_wp2
                go_ret
                exact ⟨rfl, rfl⟩
              · have c5 : 122 < r := by omega
                clear hd hl hr
                go_enter Tryz.func37, Tryz.ntmps37
                go_wp2
                go_ret
                exact ⟨rfl, rfl⟩

/-- the line and the column of a place, from a place on that is known -/
def plc (s : ByteArray) (at' : Int) : Nat → Nat → Int → Int → Int × Int
  | 0, _, l, c => (l, c)
  | b + 1, pos, l, c => if pos < s.size ∧ (pos : Int) < at' then (if (Utf8.decode s pos).1 = 10 then plc s at' b (pos + (Utf8.decode s pos).2) (l + 1) 1 else plc s at' b (pos + (Utf8.decode s pos).2) l (c + 1)) else (l, c)
theorem width_pos (s : ByteArray) (pos : Nat) (h : pos < s.size) : 1 ≤ (Utf8.decode s pos).2 := by
  by_cases ha : (s[pos]'h).toNat < 128
  · rw [decode_ascii s pos h ha]
    exact Nat.le_refl _
  · exact (decode_high s pos h (by omega)).2
theorem plc_end (s : ByteArray) (at' : Int) (b pos : Nat) (l c : Int) (h : ¬ (pos < s.size ∧ (pos : Int) < at')) : plc s at' b pos l c = (l, c) := by
  cases b with
  | zero => rfl
  | succ b => simp only [plc]; rw [if_neg h]
/-- what stands behind so many rounds -/
def PlAt (s : ByteArray) (at' : Int) (w : World) (l c : Value) (wr : World) : Prop :=
  ∃ (pos b : Nat) (x y : Int), wr = w.iter s pos ∧ l = .int .i64 x ∧ c = .int .i64 y ∧ plc s at' b pos x y = plc s at' s.size 0 1 1 ∧ s.size ≤ pos + b ∧ 1 ≤ x ∧ 1 ≤ y ∧ x ≤ pos + 1 ∧ y ≤ pos + 1 ∧ pos ≤ s.size
theorem ret_pair {a b c d : Int} (h : (a, b) = (c, d)) : Ending.returned (.tuple #[.int .i64 a, .int .i64 b]) = .returned (.tuple #[.int .i64 c, .int .i64 d]) := by
  injection h with h1 h2; rw [h1, h2]
theorem decode_in (s : ByteArray) (pos : Nat) (h : pos < s.size) : pos + (Utf8.decode s pos).2 ≤ s.size := by
  simp only [Utf8.decode]
  repeat' split
  all_goals simp_all
  all_goals omega
theorem decode_nl (s : ByteArray) (pos : Nat) : ((Utf8.decode s pos).1 : Int) ≤ 2147483647 := by have := decode_le s pos; omega
attribute [irreducible] plc
end Go.Proofs.YtegieoajjfodcaaGreatDoor

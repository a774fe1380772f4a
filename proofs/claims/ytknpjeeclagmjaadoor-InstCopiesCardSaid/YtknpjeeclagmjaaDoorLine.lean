/-
  What inst.line answers of a list of numbers, given what digit.Write and strings.Join answer.
-/
import Derived.Test.YtknpjeeclagmjaaDoorBase
import Derived.OwnWalk
import Derived.Laws.AppendOwn
import Derived.Laws.OwnMore
import Derived.Deep.AppendLies
import Derived.Maps.AppendAt
import Derived.Lib.ItoaNum
namespace Go.Proofs.YtknpjeeclagmjaaDoor
open Go.RowKit
set_option linter.unusedVariables false

def sIt (n : Int) : ByteArray := ⟨(Lib.itoa n).toArray⟩
attribute [irreducible] sIt
theorem info9 : (Tryd.prog.info? 9).map (fun i => (i.zero, i.size, i.bytes)) = some (some (.string ⟨#[]⟩), 1, 16) := by kernel_rfl
theorem rel_line {w wr w1 W : World} {k : Nat} {l : List Int} {v v' : Value} {x : Int} {o : Obj} (hk : k < l.length) (hx : l[k]?.getD 0 = x)
    (hown : wr.ownsRow w.heap.size 9 1 v k ((l.take k).map fun n => Value.string (sIt n))) (hb : Below w.heap.size w wr) (hb1 : Below wr.heap.size wr w1)
    (hown' : W.ownsRow w.heap.size 9 1 v' (k + 1) (((l.take k).map fun n => Value.string (sIt n)) ++ [.string (sIt x)])) (hgrow : (w1.alloc o).grownBy W v.ownBlock) :
    W.ownsRow w.heap.size 9 1 v' (k + 1) ((l.take (k + 1)).map fun n => Value.string (sIt n)) ∧ Below w.heap.size w W := by
  have e : l.take (k + 1) = l.take k ++ [x] := by
    rw [List.take_add_one, List.getElem?_eq_getElem hk]
    rw [List.getElem?_eq_getElem hk] at hx
    simp at hx
    rw [hx]; rfl
  refine ⟨by rw [e, List.map_append]; exact hown', ?_⟩
  have b2 : Below w.heap.size w (w1.alloc o) := bl_al (bl_tr hb hb1) o
  exact b2.grown hgrow b2.size (fun j hj => (hown.lt j hj).1)
set_option maxHeartbeats 1000000 in
theorem line_core (Tab : World → Prop) (tk : ∀ W W', Tab W → Below W.heap.size W W' → Tab W')
    (HW : ∀ (n : Int) W, -9223372036854775808 ≤ n → n ≤ 9223372036854775807 → Tab W → Calls Tryd.prog 25 #[.int .i64 n] W fun e w' => e = .returned (.string (sIt n)) ∧ Below W.heap.size W w')
    (r : ByteArray) (hr : r.size ≤ 1000000) (b o c : Nat) (l : List Int) (hl : l.length ≤ 64) (h0 : 0 < l.length) (w : World) (ht : Tab w) (hbw : b < w.heap.size)
    (hb : ∀ j, j < l.length → -9223372036854775808 ≤ l[j]?.getD 0 ∧ l[j]?.getD 0 ≤ 9223372036854775807)
    (hc : ∀ j, j < l.length → w.cell? ⟨b, o + j, none⟩ = some (.int .i64 (l[j]?.getD 0)))
    (HJ : ∀ W g cap, W.ownsRow w.heap.size 9 1 (.slice (some ⟨g, 0, none⟩) l.length cap) l.length (l.map fun n => Value.string (sIt n)) → Calls Tryd.prog 36 #[.slice (some ⟨g, 0, none⟩) l.length cap, .string ⟨#[32]⟩] W fun e w' => e = .returned (.string r) ∧ Below W.heap.size W w') :
    Calls Tryd.prog 26 #[.slice (some ⟨b, o, none⟩) l.length c] w fun e w' => e = .returned (.string (r ++ ⟨#[10]⟩)) ∧ Below w.heap.size w w' := by
  have HWh := Lib.hid HW
  have HJh := Lib.hid HJ
  have hch := Lib.hid hc
  have hbh := Lib.hid hb
  clear HW HJ hc hb
  obtain ⟨i0, hi, hz0, hz1, hz2⟩ := info_parts info9
  go_enter Tryd.func26, Tryd.ntmps26
  go_wp2
  go_loopw [3, 8] (fun v i wr => ∃ k : Nat, k ≤ l.length ∧ i = .int .i64 k ∧ wr.ownsRow w.heap.size 9 1 v k ((l.take k).map fun n => Value.string (sIt n)) ∧ Below w.heap.size w wr) (fun _ i _ => l.length - (intOf i).toNat)
  case atStart => exact ⟨0, by omega, rfl, World.ownsRow_nil _ _ _ _, Below.refl _ _⟩
  case round =>
    obtain ⟨k, hk, rfl, hown, hbl⟩ := hrel
    by_cases hlt : k < l.length
    · have hcell : wr.cell? ⟨b, o + k, none⟩ = some (.int .i64 (l[k]?.getD 0)) := (hbl.cell (p := ⟨b, o + k, none⟩) hbw).trans (hch.out k hlt)
      have hbd := hbh.out k hlt
      generalize hx : l[k]?.getD 0 = x at *
      have hW1 := Lib.hid (HWh.out x wr hbd.1 hbd.2 (tk w wr ht hbl))
      clear hbd
      go_wp2_with fail
      refine hW1.out.mono ?_; rintro e w1 ⟨rfl, hb1⟩
      have hown1 : w1.ownsRow w.heap.size 9 1 _ k _ := hown.kept (row := none) ⟨hb1.os, hb1.tape, hb1.output, hb1.size, fun i hi _ => hb1.block i hi⟩ (by by_cases h : u3.ownBlock = none; exact Or.inl h; exact Or.inr h)
      have hsz := bl_tr hbl hb1
      have hszz := hsz.size
      go_wp2_with (at_builtin; refine wpList_append_own _ rfl _ _ 37 rfl w.heap.size 9 i0 (.string ⟨#[]⟩) 1 16 Tryd.underlying37 hi hz0 hz1 hz2 rfl (by decide) _ _ _ rfl (hown1.alloc _) ⟨w1.heap.size, 0, none⟩ 1 1 [.string (sIt x)] rfl rfl (cell_one_new _ _ _) (by simp [Value.oneCell']) (by unfold maxLen; omega) (by omega) (by simp; omega) ?_)
      intro v' w2 hown' hgrow _
      rw [← List.map_take] at hown'
      have hR := rel_line hlt hx hown hbl hb1 hown' hgrow
      clear hown' hgrow hown1 hW1 hcell hown
      go_wp2
      go_roundw
      case rel => exact ⟨k + 1, by omega, by go_num, hR.1, hR.2⟩
      case measure => simp [intOf]; omega
    · obtain rfl : k = l.length := by omega
      rw [List.take_length] at hown
      obtain ⟨g, cap, rfl, hg1, hg2⟩ := hown.form h0
      have hJ := Lib.hid (HJh.out wr g cap hown)
      clear hown
      go_wp2_with fail
      refine hJ.out.mono ?_; rintro e w1 ⟨rfl, hb1⟩
      go_wp2

      go_ret
      exact ⟨rfl, bl_tr hbl hb1⟩
end Go.Proofs.YtknpjeeclagmjaaDoor

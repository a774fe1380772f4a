/-
  New of one level; leafFor with no draws, where there are two places.
-/
import Derived.Test.YtiiclonklihaiaaTk
namespace Go.Proofs.Ytiiclonklihaiaa
open Go.RowKit
set_option linter.unusedVariables false
theorem info50 : (Try.prog.info? 50).map (fun i => (i.zero, i.size, i.bytes)) = some (some (.slice none 0 0), 1, 24) := by kernel_rfl
theorem info24 : (Try.prog.info? 24).map (fun i => (i.zero, i.size, i.bytes)) = some (some (.agg #[.int .i64 0, .int .i64 0]), 2, 16) := by kernel_rfl
theorem md_new {B g L : Nat} {w : World} (hL : 0 < L) (h : w.ownsRow B 50 1 (.slice (some ⟨g, 0, none⟩) L L) L (List.replicate L (.slice none 0 0))) (hB : B ≤ w.heap.size) :
    MD B w.heap.size g L (fun _ => .slice none 0 0) (fun _ => []) (w.alloc (.cells #[.slice (some ⟨g, 0, none⟩) L L] 56)) := by
  rcases h.2 with ⟨e, _⟩ | ⟨g', cap', cur, e, _, hh, hn, _, hs, ht⟩
  · cases e
  · injection e with e1 e2 e3
    injection e1 with e1
    injection e1 with e1
    subst e1 e3
    refine ⟨heap_alloc_new w _, ⟨cur, (Below.heap_alloc w _ _ (lt_blk hh)).trans hh, fun p hp => ?_⟩, fun p hp => World.ownsRow_nil _ _ _ _, fun p q x _ _ _ hx => (by cases hx), fun p hp => (by simp)⟩
    have : cur.toList[p]? = some (.slice none 0 0) := by
      have e : (cur.toList.take (L * 1))[p]? = cur.toList[p]? := List.getElem?_take_of_lt (by omega)
      rw [← e, ht]
      simp [hp]
    rw [← this, Array.getElem?_toList]
set_option maxRecDepth 100000 in
set_option maxHeartbeats 2000000 in
theorem new1 (w : World) : Calls Try.prog 10 #[.int .i64 1] w fun e w' => ∃ b g, e = .returned (.tuple #[.pointer (some ⟨b, 0, none⟩), .int .i64 0]) ∧ MD w.heap.size b g 2 (fun _ => .slice none 0 0) (fun _ => []) w' ∧ Below w.heap.size w w' ∧ w.heap.size ≤ b ∧ w.heap.size ≤ g := by
  obtain ⟨i50, hi50, hy0, hy1, hy2⟩ := info_parts info50
  go_enter Try.func10, Try.ntmps10
  go_wp2_with (at_make; refine wpList_make_full _ rfl _ _ 35 rfl w.heap.size 50 i50 (.slice none 0 0) 1 Try.underlying35 hi50 hy0 hy1 .i64 .i64 _ _ 2 rfl rfl rfl rfl (by rw [hy2]; omega) (by unfold maxLen; omega) (Nat.le_refl _) ?_)
  intro w2 hown hgrow
  have hown2 : w2.ownsRow w.heap.size 50 1 (.slice (some ⟨w.heap.size, 0, none⟩) 2 2) 2 (List.replicate 2 (.slice none 0 0)) := by
    have e : List.replicate 2 (Value.slice none 0 0) = (madeCells #[Value.slice none 0 0] 2).toList := (toList_madeCells_one _ 2).symm
    rw [e]; exact hown
  have hM := Lib.hid (md_new (by decide) hown2 hgrow.size)
  have hB : Hid (Below w.heap.size w (w2.alloc (.cells #[.slice (some ⟨w.heap.size, 0, none⟩) 2 2] 56))) := by
    have b2 : Below w.heap.size w w2 := ⟨hgrow.os, hgrow.tape, hgrow.output, hgrow.size, fun i hi => hgrow.block i hi (by simp)⟩
    exact bl_al b2 _
  have hS := Lib.hid hgrow.size
  clear hown hown2 hgrow
  go_wp2
  exact bodyPost_ret (v := .tuple #[.pointer (some ⟨w2.heap.size, 0, none⟩), .int .i64 0]) (by simp [results, Try.results10, go_sem]) rfl ⟨_, _, rfl, hM.out, hB.out, hS.out, Nat.le_refl _⟩
set_option maxHeartbeats 4000000 in
/-- the leaf that is found, with no draws, where there is but one -/
theorem leaf1 (B b g : Nat) (vs : Nat → Value) (ls : Nat → List (Int × Int)) (key : Int) (w : World) (h : MD B b g 2 vs ls w) :
    Calls Try.prog 23 #[.pointer (some ⟨b, 0, none⟩), .int .i64 key, .slice none 0 0] w fun e w' => e = .returned (.int .i64 (if tkv (frst (ls 1)) key then 1 else 0)) ∧ Below w.heap.size w w' := by
  have HL := Lib.hid (leaves_any B b g 2 (by decide) vs ls w h)
  have HT : Hid (∀ W, Below w.heap.size w W → Calls Try.prog 25 #[.pointer (some ⟨b, 0, none⟩), .int .i64 1, .int .i64 key] W fun e w' => e = .returned (.bool (tkv (frst (ls 1)) key)) ∧ Below W.heap.size W w') := fun W hW => takes_any B b g 2 vs ls 1 (by decide) key W (h.up hW)
  have e0 : (((2 / 2 : Nat)) : Int) = 1 := rfl
  rw [e0] at HL
  clear e0 h
  generalize tkv (frst (ls 1)) key = t at *
  go_enter Try.func23, Try.ntmps23
  go_wp2_with fail
  refine HL.out.mono ?_
  rintro e w1 ⟨rfl, rfl⟩
  clear HL
  go_wp2
  go_loopw [22] (fun i wr => i = .int .i64 0 ∧ wr = w) (fun _ _ => 0)
  case atStart => exact ⟨rfl, rfl⟩
  case round =>
    obtain ⟨rfl, rfl⟩ := hrel
    have HW := Lib.hid (HT.out wr (Below.refl _ _))
    clear HT
    go_wp2
    go_loopw [11] (fun i wr2 => (i = .int .i64 1 ∧ wr2 = wr) ∨ (i = .int .i64 2 ∧ t = false ∧ Below wr.heap.size wr wr2)) (fun i _ => 2 - (intOf i).toNat)
    case atStart => exact .inl ⟨rfl, rfl⟩
    case round =>
      rcases hrel with ⟨rfl, rfl⟩ | ⟨rfl, rfl, hb⟩
      · go_wp2_with fail
        refine HW.out.mono ?_
        rintro e w2 ⟨rfl, hB⟩
        have BH := Lib.hid hB
        clear HW hB
        cases t
        · go_wp2
          go_roundw
          case rel => exact .inr ⟨by go_num, trivial, BH.out⟩
          case measure => simp [intOf]
        · go_wp2
          go_ret
          exact ⟨rfl, BH.out⟩
      · have BH := Lib.hid hb
        clear hb HW
        go_wp2
        go_ret
        exact ⟨rfl, BH.out⟩
end Go.Proofs.Ytiiclonklihaiaa

import Derived.Test.YtjlaankgfpjeeaaDoorInOne
import Derived.OwnWalk
import Derived.Laws.AppendOwn
import Derived.Laws.OwnMore
import Derived.Deep.AppendLies
import Derived.Maps.AppendAt
import Derived.Lib.ItoaNum
import Derived.Shelf.Strings.BuilderK
import Derived.Test.YtjlaankgfpjeeaaDoorInShelf
import Derived.Deep.RegionHeld3
import Derived.Lib.ItoaLen
import Derived.Lib.Join

/-
  What inst.line answers of a list of numbers, given what digit.Write and strings.Join answer.
-/
namespace Go.Proofs.YtjlaankgfpjeeaaDoor.ip
open Go.RowKit
set_option linter.unusedVariables false

def sIt (n : Int) : ByteArray := ⟨(Lib.itoa n).toArray⟩
attribute [irreducible] sIt
theorem info9 : (Tryd.prog.info? 9).map (fun i => (i.zero, i.size, i.bytes)) = some (some (.string ⟨#[]⟩), 1, 16) := by kernel_rfl
theorem rel_line {w wr w1 W : World} {k : Nat} {l : List Int} {v v' : Value} {x : Int} {o : Obj} (hk : k < l.length) (hx : l[k]?.getD 0 = x)
    (hown : wr.ownsRow w.heap.size 9 1 v k ((l.take k).map fun n => Value.string (sIt n))) (hb : Below w.heap.size w wr) (hb1 : Below wr.heap.size wr w1)
    (hown' : W.ownsRow w.heap.size 9 1 v' (k + 1) (((l.take k).map fun n => Value.string (sIt n)) ++ [.string (sIt x)])) (hgrow : (w1.alloc o).grownBy W v.ownBlock) :
    W.ownsRow w.heap.size 9 1 v' (k + 1) ((l.take (k + 1)).map fun n => Value.string (sIt n)) ∧ Below w.heap.size w W := by
  have e : l.take (k + 1) = l.take k ++ [x] := by
    rw [List.take_add_one, List.getElem?_eq_getElem hk]
    rw [List.getElem?_eq_getElem hk] at hx
    simp at hx
    rw [hx]; rfl
  refine ⟨by rw [e, List.map_append]; exact hown', ?_⟩
  have b2 : Below w.heap.size w (w1.alloc o) := bl_al (bl_tr hb hb1) o
  exact b2.grown hgrow b2.size (fun j hj => (hown.lt j hj).1)
set_option maxHeartbeats 1000000 in
theorem line_core (Tab : World → Prop) (tk : ∀ W W', Tab W → Below W.heap.size W W' → Tab W')
    (HW : ∀ (n : Int) W, -9223372036854775808 ≤ n → n ≤ 9223372036854775807 → Tab W → Calls Tryd.prog 23 #[.int .i64 n] W fun e w' => e = .returned (.string (sIt n)) ∧ Below W.heap.size W w')
    (r : ByteArray) (hr : r.size ≤ 1000000) (b o c : Nat) (l : List Int) (hl : l.length ≤ 64) (h0 : 0 < l.length) (w : World) (ht : Tab w) (hbw : b < w.heap.size)
    (hb : ∀ j, j < l.length → -9223372036854775808 ≤ l[j]?.getD 0 ∧ l[j]?.getD 0 ≤ 9223372036854775807)
    (hc : ∀ j, j < l.length → w.cell? ⟨b, o + j, none⟩ = some (.int .i64 (l[j]?.getD 0)))
    (HJ : ∀ W g cap, W.ownsRow w.heap.size 9 1 (.slice (some ⟨g, 0, none⟩) l.length cap) l.length (l.map fun n => Value.string (sIt n)) → Calls Tryd.prog 44 #[.slice (some ⟨g, 0, none⟩) l.length cap, .string ⟨#[32]⟩] W fun e w' => e = .returned (.string r) ∧ Below W.heap.size W w') :
    Calls Tryd.prog 24 #[.slice (some ⟨b, o, none⟩) l.length c] w fun e w' => e = .returned (.string (r ++ ⟨#[10]⟩)) ∧ Below w.heap.size w w' := by
  have HWh := Lib.hid HW
  have HJh := Lib.hid HJ
  have hch := Lib.hid hc
  have hbh := Lib.hid hb
  clear HW HJ hc hb
  obtain ⟨i0, hi, hz0, hz1, hz2⟩ := info_parts info9
  go_enter Tryd.func24, Tryd.ntmps24
  go_wp2
  go_loopw [3, 8] (fun v i wr => ∃ k : Nat, k ≤ l.length ∧ i = .int .i64 k ∧ wr.ownsRow w.heap.size 9 1 v k ((l.take k).map fun n => Value.string (sIt n)) ∧ Below w.heap.size w wr) (fun _ i _ => l.length - (intOf i).toNat)
  case atStart => exact ⟨0, by omega, rfl, World.ownsRow_nil _ _ _ _, Below.refl _ _⟩
  case round =>
    obtain ⟨k, hk, rfl, hown, hbl⟩ := hrel
    by_cases hlt : k < l.length
    · have hcell : wr.cell? ⟨b, o + k, none⟩ = some (.int .i64 (l[k]?.getD 0)) := (hbl.cell (p := ⟨b, o + k, none⟩) hbw).trans (hch.out k hlt)
      have hbd := hbh.out k hlt
      generalize hx : l[k]?.getD 0 = x at *
      have hW1 := Lib.hid (HWh.out x wr hbd.1 hbd.2 (tk w wr ht hbl))
      clear hbd
      go_wp2_with fail
      refine hW1.out.mono ?_; rintro e w1 ⟨rfl, hb1⟩
      have hown1 : w1.ownsRow w.heap.size 9 1 _ k _ := hown.kept (row := none) ⟨hb1.os, hb1.tape, hb1.output, hb1.size, fun i hi _ => hb1.block i hi⟩ (by by_cases h : u3.ownBlock = none; exact Or.inl h; exact Or.inr h)
      have hsz := bl_tr hbl hb1
      have hszz := hsz.size
      go_wp2_with (at_builtin; refine wpList_append_own _ rfl _ _ 83 rfl w.heap.size 9 i0 (.string ⟨#[]⟩) 1 16 Tryd.underlying83 hi hz0 hz1 hz2 rfl (by decide) _ _ _ rfl (hown1.alloc _) ⟨w1.heap.size, 0, none⟩ 1 1 [.string (sIt x)] rfl rfl (cell_one_new _ _ _) (by simp [Value.oneCell']) (by unfold maxLen; omega) (by omega) (by simp; omega) ?_)
      intro v' w2 hown' hgrow _
      rw [← List.map_take] at hown'
      have hR := rel_line hlt hx hown hbl hb1 hown' hgrow
      clear hown' hgrow hown1 hW1 hcell hown
      go_wp2
      go_roundw
      case rel => exact ⟨k + 1, by omega, by go_num, hR.1, hR.2⟩
      case measure => simp [intOf]; omega
    · obtain rfl : k = l.length := by omega
      rw [List.take_length] at hown
      obtain ⟨g, cap, rfl, hg1, hg2⟩ := hown.form h0
      have hJ := Lib.hid (HJh.out wr g cap hown)
      clear hown
      go_wp2_with fail
      refine hJ.out.mono ?_; rintro e w1 ⟨rfl, hb1⟩
      go_wp2

      go_ret
      exact ⟨rfl, bl_tr hbl hb1⟩
end Go.Proofs.YtjlaankgfpjeeaaDoor.ip

/-
  What (*strings.Builder).WriteString answers at this program, of whatever builder, where the new length is one that a machine can hold.
-/
namespace Go.Proofs.YtjlaankgfpjeeaaDoor.ip
open Go.RowKit
set_option linter.unusedVariables false

theorem sizeBuilder : (Tryd.prog.info? 51).map (·.size) = some 2 := by kernel_rfl
theorem liesBuilder : liesAt Tryd.prog Tryd.prog.depth 51 (2 / Tryd.prog.cellsOf 51) 0 51 1 = true := by kernel_rfl
theorem infoByte : (Tryd.prog.info? 5).map (fun i => (i.zero, i.size, i.bytes)) = some (some (.int .u8 0), 1, 1) := by kernel_rfl
set_option maxHeartbeats 1000000 in
set_option maxRecDepth 100000 in
theorem copy_used (b : Nat) (w : World) (h0 : w.cell? ⟨b, 0, none⟩ = some (.pointer (some ⟨b, 0, none⟩))) :
    Calls Tryd.prog 42 #[.pointer (some ⟨b, 0, none⟩)] w fun e w' => e = .returned (.tuple #[]) ∧ w' = w := by
  obtain ⟨j, hj, _⟩ := Option.map_eq_some_iff.1 sizeBuilder
  go_enter Tryd.func42, Tryd.ntmps42
  go_wp2
  rw [Lib.run_neq_ptr_same w _ Tryd.underlying49 hj]
  go_wp2
  go_end0
  exact ⟨rfl, rfl⟩
set_option maxHeartbeats 1000000 in
set_option maxRecDepth 100000 in
theorem copy_fresh (b : Nat) (w : World) (h0 : w.cell? ⟨b, 0, none⟩ = some (.pointer none)) (hsh : w.shape? b = some (51, 2)) (hfz : w.frozen? ⟨b, 0, none⟩ = false) :
    Calls Tryd.prog 42 #[.pointer (some ⟨b, 0, none⟩)] w fun e w' => e = .returned (.tuple #[]) ∧ w' = w.setCell ⟨b, 0, none⟩ (.pointer (some ⟨b, 0, none⟩)) := by
  obtain ⟨j, hj, hjs⟩ := Option.map_eq_some_iff.1 sizeBuilder
  go_enter Tryd.func42, Tryd.ntmps42
  go_wp2
  rw [Lib.run_to_unsafe w ⟨b, 0, none⟩ Tryd.underlying49 Tryd.underlying96 hj (by rw [hjs]; decide) hsh (Nat.zero_lt_succ 1)]
  simp only [Result.andThen]
  rw [Oper.upon_value]
  go_wp2
  rw [run_callFunc_extern Tryd.func55 (by kernel_rfl) (by kernel_rfl) (by kernel_rfl) (e := Extern.AbiNoEscape.same) (by kernel_rfl)]
  rw [Lib.run_noEscape]
  simp only [Result.andThen]
  rw [Oper.upon_value]
  go_wp2
  rw [Lib.run_from_unsafe w ⟨b, 0, none⟩ Tryd.underlying96 Tryd.underlying49 hj hsh liesBuilder]
  simp only [Result.andThen]
  rw [Oper.upon_value]
  go_wp2
  go_end0
  exact ⟨rfl, rfl⟩
theorem copy_any (B b : Nat) (bs : List Value) (w : World) (h : Lib.IsBuilderF 51 5 B b bs w) :
    Calls Tryd.prog 42 #[.pointer (some ⟨b, 0, none⟩)] w fun e w' => e = .returned (.tuple #[]) ∧ (Lib.BuilderAtF 51 5 B b (.pointer (some ⟨b, 0, none⟩)) bs w' ∧ Below B w w' ∧ Lib.OthersKept 5 (some b) w w') := by
  rcases h with h | h
  · refine (copy_fresh b w h.cell0 h.shape h.frozen0).mono ?_
    rintro e w' ⟨rfl, rfl⟩
    exact ⟨rfl, h.used _, (Below.refl B w).setCell (p := ⟨b, 0, none⟩) h.1 _, (Lib.OthersKept.refl _ _ w).setCell ⟨b, 0, none⟩ rfl _⟩
  · refine (copy_used b w h.cell0).mono ?_
    rintro e w' ⟨rfl, rfl⟩
    exact ⟨rfl, h, Below.refl B _, Lib.OthersKept.refl _ _ _⟩
set_option maxHeartbeats 2000000 in
set_option maxRecDepth 100000 in
theorem put_any (B b : Nat) (bs : List Value) (s : ByteArray) (w : World) (h : Lib.IsBuilderF 51 5 B b bs w) (hlen : bs.length + s.size ≤ 140737488355328) (hBw : B ≤ w.heap.size) :
    Calls Tryd.prog 21 #[.pointer (some ⟨b, 0, none⟩), .string s] w fun e w' => e = .returned (.tuple #[.int .i64 s.size, .nilIface]) ∧ (Lib.BuilderAtF 51 5 B b (.pointer (some ⟨b, 0, none⟩)) (bs ++ Lib.strCells s) w' ∧ Below B w w' ∧ Lib.OthersKept 5 (some b) w w') := by
  obtain ⟨i0, hi, hz0, hz1, hz2⟩ := info_parts infoByte
  go_enter Tryd.func21, Tryd.ntmps21
  go_wp2_with (go_at_call 42; refine (copy_any B b bs _ h).mono ?_)
  rintro e w1 ⟨rfl, h1, hb1, hk1⟩
  obtain ⟨hB, v, hbk, hown, hne⟩ := h1
  have c0 : w1.cell? ⟨b, 0, none⟩ = some (.pointer (some ⟨b, 0, none⟩)) := by rw [Lib.cell_of_heap hbk]; rfl
  have c1 : w1.cell? ⟨b, 1, none⟩ = some v := by rw [Lib.cell_of_heap hbk]; rfl
  go_wp2_with (at_builtin; refine Lib.wpList_append_own_stringF _ rfl _ _ 47 9 rfl B 5 i0 Tryd.underlying47 Tryd.underlying9 hi hz0 hz1 hz2 _ _ _ rfl hown s rfl ?c3 ?c4 ?c5 ?_)
  case c3 => unfold maxLen; omega
  case c4 => omega
  case c5 => have := hb1.size; omega
  intro v' w2 hown' hgrow _
  have hlt : b < w1.heap.size := by
    rcases Nat.lt_or_ge b w1.heap.size with h' | h'
    · exact h'
    · simp [Array.getElem?_eq_none h'] at hbk
  have hb2 : w2.heap[b]? = some (.cells #[.pointer (some ⟨b, 0, none⟩), v] 51 (0, 0)) := by
    rw [hgrow.block b hlt (fun e => hne e.symm)]
    exact hbk
  have d0 : w2.cell? ⟨b, 0, none⟩ = some (.pointer (some ⟨b, 0, none⟩)) := by rw [Lib.cell_of_heap hb2]; rfl
  have d1 : w2.cell? ⟨b, 1, none⟩ = some v := by rw [Lib.cell_of_heap hb2]; rfl
  have f1 : w2.frozen? ⟨b, 1, none⟩ = false := Lib.frozen_of_heap hb2 1
  obtain ⟨ao, n', cap, rfl⟩ : ∃ ao n' cap, v' = .slice ao n' cap := by
    rcases hown'.2 with ⟨hv, _⟩ | ⟨g, cap, cur, fz, hv, _⟩
    · exact ⟨_, _, _, hv⟩
    · exact ⟨_, _, _, hv⟩
  go_wp2
  go_ret2
  refine ⟨rfl, ?_, ?_, (hk1.grown hgrow (Lib.ownsRowF_kind hown)).setCell ⟨b, 1, none⟩ rfl _⟩
  · exact Lib.BuilderAtF.put (T := 51) (e := 5) hB hb2 (bs' := bs ++ Lib.strCells s) (by simpa [Lib.strCells_length] using hown') (by decide)
  · exact (hb1.grown hgrow (by have := hb1.size; omega) (fun k hk => (hown.lt k hk).1)).setCell (p := ⟨b, 1, none⟩) hB _
end Go.Proofs.YtjlaankgfpjeeaaDoor.ip

/-
  What inst.Write answers of the one problem that the laws write down, in every world that holds the table of the powers of ten.
-/
namespace Go.Proofs.YtjlaankgfpjeeaaDoor.ip
open Go.RowKit
set_option linter.unusedVariables false

def Tab (w : World) : Prop := Lib.TabIs Tryd.prog w "internal/strconv.uint64pow10" .u64 Lib.pow10Tab
theorem gPow : Tryd.prog.globalNamed "internal/strconv.uint64pow10" = some 0 := by kernel_rfl
theorem tab_b {w w' : World} {B : Nat} (h : Tab w) (hb : Below B w w') (h0 : 0 < B) : Tab w' := by
  have hv : w.var? Tryd.prog "internal/strconv.uint64pow10" = _ := h
  show w'.var? Tryd.prog "internal/strconv.uint64pow10" = _
  rw [← hv]
  unfold World.var?
  rw [gPow]
  simp only [Option.bind_some]
  rw [hb.block 0 h0]
theorem tab_pos {w : World} (h : Tab w) : 0 < w.heap.size := by
  rcases Nat.lt_or_ge 0 w.heap.size with h' | h'
  · exact h'
  · exfalso
    have hv : w.var? Tryd.prog "internal/strconv.uint64pow10" = _ := h
    unfold World.var? at hv
    rw [gPow, Option.bind_some, Array.getElem?_eq_none h'] at hv
    cases hv
theorem tab_keep (w w' : World) (h : Tab w) (hb : Below w.heap.size w w') : Tab w' := tab_b h hb (tab_pos h)
theorem bl_grow (w : World) (k : Nat) (os : Array Obj) : Below w.heap.size w (Go.Sort.grow (w.drewN k) os) := by
  refine ⟨rfl, rfl, rfl, ?_, fun i hi => ?_⟩
  · show w.heap.size ≤ (w.heap ++ os).size
    simp
  · show (w.heap ++ os)[i]? = w.heap[i]?
    rw [Array.getElem?_append_left hi]
theorem sIt_eq (n : Int) : sIt n = ⟨(Lib.itoa n).toArray⟩ := by unfold sIt; rfl
theorem write_any (n : Int) (w : World) (h0 : -9223372036854775808 ≤ n) (h1 : n ≤ 9223372036854775807) (ht : Tab w) :
    Calls Tryd.prog 23 #[.int .i64 n] w fun e w' => e = .returned (.string (sIt n)) ∧ Below w.heap.size w w' := by
  have HI := Lib.hid (Tryd.strconv_Itoa n h0 h1 w ht)
  rw [sIt_eq]
  go_enter Tryd.func23, Tryd.ntmps23
  go_wp2_with fail
  refine HI.out.mono ?_; rintro e w1 ⟨rfl, k, os, rfl⟩
  go_wp2
  go_ret
  exact ⟨rfl, bl_grow w k os⟩
theorem line_two (b c : Nat) (w : World) (ht : Tab w) (hbw : b < w.heap.size) (h3 : w.cell? ⟨b, 0, none⟩ = some (.int .i64 3)) (h4 : w.cell? ⟨b, 1, none⟩ = some (.int .i64 4)) :
    Calls Tryd.prog 24 #[.slice (some ⟨b, 0, none⟩) 2 c] w fun e w' => e = .returned (.string ⟨#[51, 32, 52, 10]⟩) ∧ Below w.heap.size w w' := by
  have e : (⟨(Lib.join ([sIt 3, sIt 4].map (·.data.toList)) [32]).toArray⟩ : ByteArray) = ⟨#[51, 32, 52]⟩ := by rw [sIt_eq, sIt_eq]; kernel_rfl
  have key := line_core Tab tab_keep write_any ⟨#[51, 32, 52]⟩ (by decide) b 0 c [3, 4] (by decide) (by decide) w ht hbw (fun j hj => by
      rcases j with _ | _ | j
      · decide
      · decide
      · simp at hj; omega) (fun j hj => by
      rcases j with _ | _ | j
      · exact h3
      · exact h4
      · simp at hj; omega) (fun W g cap hown => by
      have hlt := hown.lt g rfl
      have hcap : 2 ≤ cap := by
        rcases hown.2 with ⟨h, _⟩ | ⟨g', cap', cur, hv, _, _, _, _, hc, _⟩
        · cases h
        · cases hv
          have := hown.1
          omega
      have hJ := Tryd.strings_Join g 0 cap [sIt 3, sIt 4] ⟨#[32]⟩ W (fun j x hx => by
        rcases j with _ | _ | j
        · rw [show (0 + 0 : Nat) = 0 from rfl, hown.cellAt 0 (by decide)]; simp at hx; subst hx; rfl
        · rw [show (0 + (0 + 1) : Nat) = 1 from rfl, hown.cellAt 1 (by decide)]; simp at hx; subst hx; rfl
        · simp at hx) hlt.2 (by decide) hcap (by rw [sIt_eq, sIt_eq]; exact of_decide_eq_true (by kernel_rfl))
      rw [show ([32] : List UInt8) = (⟨#[32]⟩ : ByteArray).data.toList from rfl] at e
      rw [e] at hJ
      exact hJ)
  exact key

/-- what the walk of inst.Write keeps: the problem in its box (bx), its two lists (b1, b2), the builder (bb) with what has been written -/
structure St (w : World) (bx bb b1 b2 : Nat) (acc : List UInt8) (W : World) : Prop where
  box : W.heap[bx]? = some (.cells #[.int .i64 1, .int .i64 1, .int .i64 5, .slice (some ⟨b1, 0, none⟩) 1 1, .slice (some ⟨b2, 0, none⟩) 1 1, .slice none 0 0] 25 (0, 0))
  e1 : W.cell? ⟨b1, 0, none⟩ = some (.int .i64 3)
  e2 : W.cell? ⟨b2, 0, none⟩ = some (.int .i64 4)
  bld : Lib.IsBuilderF 51 5 bb bb (Lib.byteCells acc) W
  tab : Tab W
  bel : Below w.heap.size w W
  l0 : bx < bb
  l1 : b1 < bb
  l2 : b2 < bb
  hw : w.heap.size ≤ bb
  hB : bb < W.heap.size
theorem at_keep {b : Nat} {p : Value} {bs : List Value} {W W1 : World} (h : Lib.BuilderAtF 51 5 b b p bs W) (hb : Below W.heap.size W W1) : Lib.BuilderAtF 51 5 b b p bs W1 := by
  obtain ⟨h1, v, h2, h3, h4⟩ := h
  have hlt : b < W.heap.size := by
    rcases Nat.lt_or_ge b W.heap.size with h' | h'
    · exact h'
    · simp [Array.getElem?_eq_none h'] at h2
  refine ⟨h1, v, (hb.block b hlt).trans h2, h3.kept (row := none) ⟨hb.os, hb.tape, hb.output, hb.size, fun i hi _ => hb.block i hi⟩ ?_, h4⟩
  by_cases h : v.ownBlock = none
  · exact Or.inl h
  · exact Or.inr h
theorem St.keep {w W W1 : World} {bx bb b1 b2 : Nat} {acc : List UInt8} (h : St w bx bb b1 b2 acc W) (hb : Below W.heap.size W W1) : St w bx bb b1 b2 acc W1 :=
  { box := (hb.block bx (Nat.lt_trans h.l0 h.hB)).trans h.box
    e1 := (hb.cell (p := ⟨b1, 0, none⟩) (Nat.lt_trans h.l1 h.hB)).trans h.e1
    e2 := (hb.cell (p := ⟨b2, 0, none⟩) (Nat.lt_trans h.l2 h.hB)).trans h.e2
    bld := h.bld.elim (fun x => Or.inl (at_keep x hb)) (fun x => Or.inr (at_keep x hb))
    tab := tab_keep _ _ h.tab hb
    bel := bl_tr h.bel hb
    l0 := h.l0, l1 := h.l1, l2 := h.l2, hw := h.hw, hB := Nat.lt_of_lt_of_le h.hB hb.size }
theorem St.put {w W W1 : World} {bx bb b1 b2 : Nat} {acc acc' : List UInt8} {s : ByteArray} (h : St w bx bb b1 b2 acc W) (k : Lib.BuilderAtF 51 5 bb bb (.pointer (some ⟨bb, 0, none⟩)) (Lib.byteCells acc ++ Lib.strCells s) W1)
    (hb : Below bb W W1) (ha : acc ++ s.data.toList = acc') : St w bx bb b1 b2 acc' W1 :=
  { box := (hb.block bx h.l0).trans h.box
    e1 := (hb.cell (p := ⟨b1, 0, none⟩) h.l1).trans h.e1
    e2 := (hb.cell (p := ⟨b2, 0, none⟩) h.l2).trans h.e2
    bld := Or.inr (by rw [← ha, Lib.byteCells_append]; exact k)
    tab := tab_b h.tab hb (Nat.lt_of_le_of_lt (Nat.zero_le _) h.l0)
    bel := h.bel.trans (hb.mono h.hw)
    l0 := h.l0, l1 := h.l1, l2 := h.l2, hw := h.hw, hB := Nat.lt_of_lt_of_le h.hB hb.size }
theorem St.cells {w W : World} {bx bb b1 b2 : Nat} {acc : List UInt8} (h : St w bx bb b1 b2 acc W) : W.cell? ⟨bx, 0, none⟩ = some (.int .i64 1) ∧ W.cell? ⟨bx, 1, none⟩ = some (.int .i64 1) ∧ W.cell? ⟨bx, 2, none⟩ = some (.int .i64 5) ∧
    W.cell? ⟨bx, 3, none⟩ = some (.slice (some ⟨b1, 0, none⟩) 1 1) ∧ W.cell? ⟨bx, 4, none⟩ = some (.slice (some ⟨b2, 0, none⟩) 1 1) ∧ W.cell? ⟨bx, 5, none⟩ = some (.slice none 0 0) :=
  ⟨cell_of_row _ _ 0 _ _ _ h.box, cell_of_row _ _ 1 _ _ _ h.box, cell_of_row _ _ 2 _ _ _ h.box, cell_of_row _ _ 3 _ _ _ h.box, cell_of_row _ _ 4 _ _ _ h.box, cell_of_row _ _ 5 _ _ _ h.box⟩
theorem St.puts {w W : World} {bx bb b1 b2 : Nat} {acc : List UInt8} (h : St w bx bb b1 b2 acc W) (s : ByteArray) (acc' : List UInt8) (ha : acc ++ s.data.toList = acc') (hl : acc.length + s.size ≤ 1000) :
    Calls Tryd.prog 21 #[.pointer (some ⟨bb, 0, none⟩), .string s] W fun e w' => e = .returned (.tuple #[.int .i64 s.size, .nilIface]) ∧ St w bx bb b1 b2 acc' w' :=
  (put_any bb bb (Lib.byteCells acc) s W h.bld (by simp [Lib.byteCells]; omega) (Nat.le_of_lt h.hB)).mono fun e w' ⟨he, k, hb, _⟩ => ⟨he, h.put k hb ha⟩
end Go.Proofs.YtjlaankgfpjeeaaDoor.ip

/-
  A problem's text, line by line: plain mathematics.
-/
namespace Go.Proofs.YtjlaankgfpjeeaaDoor.ip
open Go.RowKit
set_option linter.unusedVariables false
/-- a number's signs -/
def dg (n : Int) : List UInt8 := Lib.itoa n
theorem dg_sIt (n : Int) : sIt n = ⟨(dg n).toArray⟩ := by rw [sIt_eq]; rfl
theorem dg_len (n : Int) (h : 0 ≤ n ∧ n ≤ 2147483647) : (dg n).length ≤ 21 := Lib.itoa_length_le n (by omega) (by omega)
/-- the first c numbers of a line -/
def lnk (l : List Int) : Nat → List UInt8
  | 0 => []
  | c + 1 => (if c = 0 then [] else lnk l c ++ [32]) ++ dg (l[c]?.getD 0)
theorem lnk_zero (l : List Int) : lnk l 0 = [] := rfl
theorem lnk_one (l : List Int) : lnk l 1 = dg (l[0]?.getD 0) := by simp [lnk]
theorem lnk_succ (l : List Int) (c : Nat) (h : 0 < c) : lnk l (c + 1) = lnk l c ++ [32] ++ dg (l[c]?.getD 0) := by
  show (if c = 0 then [] else lnk l c ++ [32]) ++ dg (l[c]?.getD 0) = _
  rw [if_neg (by omega)]
theorem lnk_len (l : List Int) (h : ∀ j, j < l.length → 0 ≤ l[j]?.getD 0 ∧ l[j]?.getD 0 ≤ 2147483647) : ∀ c, c ≤ l.length → (lnk l c).length ≤ 22 * c
  | 0, _ => by simp [lnk]
  | c + 1, hc => by
    have h1 := lnk_len l h c (by omega)
    have h2 := dg_len _ (h c (by omega))
    rcases Nat.eq_zero_or_pos c with h0 | h0
    · subst h0; rw [lnk_one]; omega
    · rw [lnk_succ l c h0]; simp; omega
theorem join_snoc (xs : List (List UInt8)) (x : List UInt8) (sep : List UInt8) (h : xs ≠ []) : Lib.join (xs ++ [x]) sep = Lib.join xs sep ++ sep ++ x := by
  unfold Lib.join
  rw [List.intercalate, List.intercalate]
  induction xs with
  | nil => exact absurd rfl h
  | cons a xs ih =>
    cases xs with
    | nil => simp [List.intersperse]
    | cons b xs =>
      have := ih (by simp)
      simp [List.intersperse] at this ⊢
      exact this
theorem join_lnk (l : List Int) : ∀ c, c ≤ l.length → Lib.join ((l.take c).map dg) [32] = lnk l c
  | 0, _ => rfl
  | c + 1, hc => by
    have h1 := join_lnk l c (by omega)
    have e : l.take (c + 1) = l.take c ++ [l[c]?.getD 0] := by
      rw [List.take_succ_eq_append_getElem (by omega), List.getElem?_eq_getElem (by omega)]; rfl
    rcases Nat.eq_zero_or_pos c with h0 | h0
    · subst h0
      rw [e, lnk_one]; simp [Lib.join, List.intercalate]
    · rw [e, List.map_append, List.map_cons, List.map_nil, join_snoc _ _ _ (by intro hh; have := congrArg List.length hh; rw [List.length_map, List.length_take, List.length_nil] at this; omega), h1, lnk_succ l c h0]
theorem join_all (l : List Int) : Lib.join (l.map dg) [32] = lnk l l.length := by
  have := join_lnk l l.length (Nat.le_refl _)
  rwa [List.take_length] at this
/-- a knapsack's first k lines -/
def kt (wl vl : List Int) : Nat → List UInt8
  | 0 => []
  | k + 1 => kt wl vl k ++ dg (wl[k]?.getD 0) ++ [32] ++ dg (vl[k]?.getD 0) ++ [10]
/-- a table's first k lines -/
def rt (cl : List (List Int)) : Nat → List UInt8
  | 0 => []
  | k + 1 => rt cl k ++ lnk (cl[k]?.getD []) (cl[k]?.getD []).length ++ [10]
theorem kt_nil (wl vl : List Int) : kt wl vl 0 = [] := rfl
theorem rt_nil (cl : List (List Int)) : rt cl 0 = [] := rfl
theorem kt_succ (wl vl : List Int) (k : Nat) : kt wl vl (k + 1) = kt wl vl k ++ dg (wl[k]?.getD 0) ++ [32] ++ dg (vl[k]?.getD 0) ++ [10] := rfl
theorem rt_succ (cl : List (List Int)) (k : Nat) : rt cl (k + 1) = rt cl k ++ lnk (cl[k]?.getD []) (cl[k]?.getD []).length ++ [10] := rfl
theorem kt_len (wl vl : List Int) (hl : wl.length = vl.length) (h : itemsE wl vl = 0) : ∀ k, k ≤ wl.length → (kt wl vl k).length ≤ 50 * k
  | 0, _ => by simp [kt]
  | k + 1, hk => by
    have h1 := kt_len wl vl hl h k (by omega)
    have h2 := items_ok wl vl hl h k (by omega)
    have h3 := dg_len _ h2.1
    have h4 := dg_len _ h2.2
    rw [kt_succ]
    unfold nth at h3 h4
    simp; omega
theorem rt_len (K : Int) (cl : List (List Int)) (hr : rowsP cl) (h : costE K 0 cl = 0) (hn : cl.length ≤ 24) : ∀ k, k ≤ cl.length → (rt cl k).length ≤ 600 * k
  | 0, _ => by simp [rt]
  | k + 1, hk => by
    have h1 := rt_len K cl hr h hn k (by omega)
    have h2 := row_ok K _ _ 0 (cost_ok K cl 0 h k (by omega))
    have h3 := hr k (by omega)
    have h4 := lnk_len (cl[k]?.getD []) (fun j hj => (h2 j hj).1) _ (Nat.le_refl _)
    rw [rt_succ]
    simp; omega
/-- the first line -/
def hd (K N C : Int) : List UInt8 := nameOf K ++ [32] ++ dg N ++ (if K = 1 then [32] ++ dg C else if K = 3 then [32, 70, 85, 76, 76] else []) ++ [10]
/-- a problem's text -/
def wtx (K N C : Int) (wl vl : List Int) (cl : List (List Int)) : List UInt8 := hd K N C ++ (if K = 1 then kt wl vl wl.length else rt cl cl.length)
attribute [irreducible] dg lnk kt rt
end Go.Proofs.YtjlaankgfpjeeaaDoor.ip

/-
  What the walk of inst.Write keeps, for every problem.
-/
namespace Go.Proofs.YtjlaankgfpjeeaaDoor.ip
open Go.RowKit
set_option linter.unusedVariables false
structure Wt (w : World) (bx bb : Nat) (cs : Array Value) (acc : List UInt8) (W : World) : Prop where
  box : W.heap[bx]? = some (.cells cs 25 (0, 0))
  bld : Lib.IsBuilderF 51 5 bb bb (Lib.byteCells acc) W
  tab : Tab W
  bel : Below w.heap.size w W
  l0 : bx < bb
  hw : w.heap.size ≤ bb
  hB : bb < W.heap.size
theorem Wt.keep {w W W1 : World} {bx bb : Nat} {cs : Array Value} {acc : List UInt8} (h : Wt w bx bb cs acc W) (hb : Below W.heap.size W W1) : Wt w bx bb cs acc W1 :=
  { box := (hb.block bx (Nat.lt_trans h.l0 h.hB)).trans h.box
    bld := h.bld.elim (fun x => Or.inl (at_keep x hb)) (fun x => Or.inr (at_keep x hb))
    tab := tab_keep _ _ h.tab hb
    bel := bl_tr h.bel hb
    l0 := h.l0, hw := h.hw, hB := Nat.lt_of_lt_of_le h.hB hb.size }
theorem Wt.put {w W W1 : World} {bx bb : Nat} {cs : Array Value} {acc acc' : List UInt8} {s : ByteArray} (h : Wt w bx bb cs acc W) (k : Lib.BuilderAtF 51 5 bb bb (.pointer (some ⟨bb, 0, none⟩)) (Lib.byteCells acc ++ Lib.strCells s) W1)
    (hb : Below bb W W1) (ha : acc ++ s.data.toList = acc') : Wt w bx bb cs acc' W1 :=
  { box := (hb.block bx h.l0).trans h.box
    bld := Or.inr (by rw [← ha, Lib.byteCells_append]; exact k)
    tab := tab_b h.tab hb (Nat.lt_of_le_of_lt (Nat.zero_le _) h.l0)
    bel := h.bel.trans (hb.mono h.hw)
    l0 := h.l0, hw := h.hw, hB := Nat.lt_of_lt_of_le h.hB hb.size }
theorem Wt.puts {w W : World} {bx bb : Nat} {cs : Array Value} {acc : List UInt8} (h : Wt w bx bb cs acc W) (s : ByteArray) (acc' : List UInt8) (ha : acc ++ s.data.toList = acc') (hl : acc.length + s.size ≤ 100000) :
    Calls Tryd.prog 21 #[.pointer (some ⟨bb, 0, none⟩), .string s] W fun e w' => e = .returned (.tuple #[.int .i64 s.size, .nilIface]) ∧ Wt w bx bb cs acc' w' :=
  (put_any bb bb (Lib.byteCells acc) s W h.bld (by simp [Lib.byteCells]; omega) (Nat.le_of_lt h.hB)).mono fun e w' ⟨he, k, hb, _⟩ => ⟨he, h.put k hb ha⟩
theorem Wt.cells {w W : World} {bx bb : Nat} {v0 v1 v2 v3 v4 v5 : Value} {acc : List UInt8} (h : Wt w bx bb #[v0, v1, v2, v3, v4, v5] acc W) : W.cell? ⟨bx, 0, none⟩ = some v0 ∧ W.cell? ⟨bx, 1, none⟩ = some v1 ∧ W.cell? ⟨bx, 2, none⟩ = some v2 ∧
    W.cell? ⟨bx, 3, none⟩ = some v3 ∧ W.cell? ⟨bx, 4, none⟩ = some v4 ∧ W.cell? ⟨bx, 5, none⟩ = some v5 :=
  ⟨cell_of_row _ _ 0 _ _ _ h.box, cell_of_row _ _ 1 _ _ _ h.box, cell_of_row _ _ 2 _ _ _ h.box, cell_of_row _ _ 3 _ _ _ h.box, cell_of_row _ _ 4 _ _ _ h.box, cell_of_row _ _ 5 _ _ _ h.box⟩
theorem Wt.dr {w W : World} {bx bb : Nat} {cs : Array Value} {acc : List UInt8} (h : Wt w bx bb cs acc W) : Wt w bx bb cs acc W.drew := h.keep (Below.refl _ _).drew
theorem Wt.c01 {w W : World} {bx bb : Nat} {v0 v1 v2 v3 v4 v5 : Value} {acc : List UInt8} (h : Wt w bx bb #[v0, v1, v2, v3, v4, v5] acc W) : W.cell? ⟨bx, 0, none⟩ = some v0 ∧ W.cell? ⟨bx, 1, none⟩ = some v1 := ⟨h.cells.1, h.cells.2.1⟩
theorem wt_start {w w1 : World} {cs : Array Value} (ht : Tab w) (hb : Below (w.alloc (.cells cs 25)).heap.size (w.alloc (.cells cs 25)) w1) : Wt w w.heap.size w1.heap.size cs [] (w1.alloc (.cells #[.pointer none, .slice none 0 0] 51)) := by
  have hs := hb.size
  simp at hs
  have b0 : Below w.heap.size w w1 := bl_tr (bl_al (Below.refl _ _) _) hb
  have bA : Below w1.heap.size w1 (w1.alloc (.cells #[.pointer none, .slice none 0 0] 51)) := bl_al (Below.refl _ _) _
  exact {
    box := (bA.block _ (by omega)).trans ((hb.block _ (by simp)).trans (heap_alloc_new w _))
    bld := Lib.IsBuilderF.of (Lib.fresh_isBuilder 51 5 w1)
    tab := tab_keep _ _ ht (bl_al b0 _)
    bel := bl_al b0 _
    l0 := by omega
    hw := by omega
    hB := by simp }
/-- a line of any numbers -/
theorem line_any (b o c : Nat) (l : List Int) (hl : l.length ≤ 64) (h0 : 0 < l.length) (w : World) (ht : Tab w) (hbw : b < w.heap.size) (hn : ∀ j, j < l.length → 0 ≤ l[j]?.getD 0 ∧ l[j]?.getD 0 ≤ 2147483647)
    (hc : ∀ j, j < l.length → w.cell? ⟨b, o + j, none⟩ = some (.int .i64 (l[j]?.getD 0))) :
    Calls Tryd.prog 24 #[.slice (some ⟨b, o, none⟩) l.length c] w fun e w' => e = .returned (.string ⟨(lnk l l.length ++ [10]).toArray⟩) ∧ Below w.heap.size w w' := by
  have e : (Lib.join ((l.map sIt).map (·.data.toList)) [32]) = lnk l l.length := by
    rw [← join_all, List.map_map]
    congr 1
    apply List.map_congr_left
    intro n _
    rw [Function.comp, dg_sIt]
  have hlen := lnk_len l hn _ (Nat.le_refl _)
  have key := line_core Tab tab_keep write_any ⟨(lnk l l.length).toArray⟩ (by show (lnk l l.length).toArray.size ≤ _; simp; omega) b o c l hl h0 w ht hbw (fun j hj => by have := hn j hj; omega) hc (fun W g cap hown => by
      have hlt := hown.lt g rfl
      have hcap : l.length ≤ cap := by
        rcases hown.2 with ⟨h, _⟩ | ⟨g', cap', cur, hv, _, _, _, _, hc, _⟩
        · cases h
        · cases hv
          have := hown.1
          omega
      have hJ := Tryd.strings_Join g 0 cap (l.map sIt) ⟨#[32]⟩ W (fun j x hx => by
        have hj : j < l.length := by have := (List.getElem?_eq_some_iff.1 hx).1; simpa using this
        rw [Nat.zero_add]
        have := hown.cellAt j (by omega)
        rw [this]
        rw [List.getElem?_map] at hx ⊢
        rw [List.getElem?_eq_getElem hj] at hx ⊢
        simp at hx ⊢
        rw [hx]) hlt.2 (by simp; omega) (by simpa using hcap) (by
          rw [show (⟨#[32]⟩ : ByteArray).data.toList = [32] from rfl, e]; omega)
      rw [show (⟨#[32]⟩ : ByteArray).data.toList = [32] from rfl, e, List.length_map] at hJ
      exact hJ)
  refine key.mono ?_
  rintro en w' ⟨rfl, hb⟩
  refine ⟨?_, hb⟩
  congr 2
theorem line_pair (x y : Int) (hx : 0 ≤ x ∧ x ≤ 2147483647) (hy : 0 ≤ y ∧ y ≤ 2147483647) (b c : Nat) (w : World) (ht : Tab w) (hbw : b < w.heap.size) (h3 : w.cell? ⟨b, 0, none⟩ = some (.int .i64 x)) (h4 : w.cell? ⟨b, 1, none⟩ = some (.int .i64 y)) :
    Calls Tryd.prog 24 #[.slice (some ⟨b, 0, none⟩) 2 c] w fun e w' => e = .returned (.string ⟨(dg x ++ [32] ++ dg y ++ [10]).toArray⟩) ∧ Below w.heap.size w w' := by
  have e : lnk [x, y] 2 = dg x ++ [32] ++ dg y := by rw [lnk_succ _ 1 (by omega), lnk_one]; rfl
  have := line_any b 0 c [x, y] (by simp) (by simp) w ht hbw (fun j hj => by
    rcases j with _ | _ | j
    · exact hx
    · exact hy
    · simp at hj; omega) (fun j hj => by
    rcases j with _ | _ | j
    · exact h3
    · exact h4
    · simp at hj; omega)
  rw [show [x, y].length = 2 from rfl, e] at this
  exact this
end Go.Proofs.YtjlaankgfpjeeaaDoor.ip

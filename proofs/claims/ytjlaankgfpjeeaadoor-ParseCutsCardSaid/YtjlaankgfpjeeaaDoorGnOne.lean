import Derived.Test.YtjlaankgfpjeeaaDoorProg
import Derived.WalkKit
import Derived.ProofKit
import Derived.OpenShut
import Derived.Laws.Bits64
import Derived.Lib.Hide
import Derived.Below
import Derived.Deep.QuietTactic
import Derived.BigQuiet
import Derived.OwnWalk
import Derived.Laws.AppendOwn
import Derived.Laws.OwnMore
import Derived.Deep.AppendLies
import Derived.Maps.AppendAt
import Derived.Deep.RegionHeld3
import Derived.Lib.SmallJoins
import Derived.LoopTactic
import Derived.OneCell

/-
  What gen.Draw and the reference's Draw answer, in every world. No condition.
-/
namespace Go.Proofs.YtjlaankgfpjeeaaDoor.gn
open Go.ChangeShapes Go.WideShapes Go.ChangeAt Go.RowKit
set_option linter.unusedVariables false

theorem entry_yes (n : Int) (h0 : 0 ≤ n) (h1 : n ≤ 2147483647) (w : World) : Calls Tryd.prog 32 #[.int .i64 n] w fun e w' => e = .returned (.bool true) ∧ w = w' := by
  go_enter Tryd.func32, Tryd.ntmps32
  go_wp2
  go_ret
  exact ⟨rfl, rfl⟩
theorem entry_no (n : Int) (h : n < 0 ∨ 2147483647 < n) (w : World) : Calls Tryd.prog 32 #[.int .i64 n] w fun e w' => e = .returned (.bool false) ∧ w = w' := by
  by_cases h0 : n < 0
  · clear h
    go_enter Tryd.func32, Tryd.ntmps32
    go_wp2
    go_ret
    exact ⟨rfl, rfl⟩
  · have h1 : 2147483647 < n := by omega
    clear h
    have h2 : decide (n ≤ 2147483647) = false := decide_eq_false (by omega)
    go_enter Tryd.func32, Tryd.ntmps32
    go_wp2
    go_ret
    exact ⟨rfl, rfl⟩
theorem draw_no (s n : Int) (h : n < 0 ∨ 2147483647 < n) (w : World) : Calls Tryd.prog 35 #[.int .u64 s, .int .i64 n] w fun e w' => e = .returned (.tuple #[.int .i64 0, .int .u64 s]) ∧ w = w' := by
  have H := Lib.hid (fun W => entry_no n h W)
  clear h
  go_enter Tryd.func35, Tryd.ntmps35
  go_wp2_with fail
  refine (H.out _).mono ?_; rintro e w1 ⟨rfl, rfl⟩
  go_wp2
  go_ret2
  exact ⟨rfl, rfl⟩
set_option maxRecDepth 100000 in
theorem draw_yes (s n t q r : Int) (h0 : 0 ≤ n) (h1 : n ≤ 2147483647)
    (ht : IntKind.u64.wrap (IntKind.u64.wrap (s * 6364136223846793005) + 1442695040888963407) = t) (t0 : 0 ≤ t) (t1 : t ≤ 18446744073709551615) (hq : t / 8589934592 = q) (q0 : 0 ≤ q) (q1 : q ≤ 2147483647) (hr : q % (n + 1) = r)
    (w : World) : Calls Tryd.prog 35 #[.int .u64 s, .int .i64 n] w fun e w' => e = .returned (.tuple #[.int .i64 r, .int .u64 t]) ∧ w = w' := by
  have H := Lib.hid (fun W => entry_yes n h0 h1 W)
  go_enter Tryd.func35, Tryd.ntmps35
  go_wp2_with fail
  refine (H.out _).mono ?_; rintro e w1 ⟨rfl, rfl⟩
  go_wp2
  go_ret2
  exact ⟨congrArg (fun b => Ending.returned (.tuple #[.int .i64 b, .int .u64 t])) hr, rfl⟩
theorem gens_any (w : World) : Calls Tryd.prog 15 #[] w fun e w' => e = .returned (.bool true) ∧ w = w' := by
  have H := Lib.hid (fun W => draw_yes 0 9 1442695040888963407 167951807 7 (by decide) (by decide) (by rw [IntKind.wrap_u64, IntKind.wrap_u64]; decide) (by decide) (by decide) (by decide) (by decide) (by decide) (by decide) W)
  go_enter Tryd.func15, Tryd.ntmps15
  go_wp2_with fail
  refine (H.out _).mono ?_; rintro e w1 ⟨rfl, rfl⟩
  go_wp2
  go_ret
  exact ⟨rfl, rfl⟩
end Go.Proofs.YtjlaankgfpjeeaaDoor.gn

/-
  The numbers that a seed draws, one behind the other; what Draw and next answer of them.
-/
namespace Go.Proofs.YtjlaankgfpjeeaaDoor.gn
open Go.RowKit
set_option linter.unusedVariables false
/-- the next seed -/
def nxt (s : Int) : Int := IntKind.u64.wrap (IntKind.u64.wrap (s * 6364136223846793005) + 1442695040888963407)
theorem nxt_bd (s : Int) : 0 ≤ nxt s ∧ nxt s ≤ 18446744073709551615 := by unfold nxt; rw [IntKind.wrap_u64]; omega
/-- the seed behind k draws -/
def sd (s : Int) : Nat → Int
  | 0 => s
  | k + 1 => nxt (sd s k)
theorem sd_zero (s : Int) : sd s 0 = s := rfl
theorem sd_succ (s : Int) (k : Nat) : sd s (k + 1) = nxt (sd s k) := rfl
/-- the number of draw k -/
def dr (m s : Int) (k : Nat) : Int := (sd s (k + 1) / 8589934592) % (m + 1)
theorem dr_bd (m s : Int) (k : Nat) (h0 : 0 ≤ m) : 0 ≤ dr m s k ∧ dr m s k ≤ m := by
  unfold dr
  have h1 := Int.emod_nonneg (sd s (k + 1) / 8589934592) (show m + 1 ≠ 0 by omega)
  have h2 := Int.emod_lt_of_pos (sd s (k + 1) / 8589934592) (show 0 < m + 1 by omega)
  omega
theorem draw_any (m s : Int) (h0 : 0 ≤ m) (h1 : m ≤ 2147483647) (k : Nat) (w : World) : Calls Tryd.prog 35 #[.int .u64 (sd s k), .int .i64 m] w fun e w' => e = .returned (.tuple #[.int .i64 (dr m s k), .int .u64 (sd s (k + 1))]) ∧ w' = w := by
  have hb := nxt_bd (sd s k)
  refine (draw_yes (sd s k) m (sd s (k + 1)) (sd s (k + 1) / 8589934592) (dr m s k) h0 h1 rfl hb.1 hb.2 rfl ?_ ?_ rfl w).mono fun e w' h => ⟨h.1, h.2.symm⟩
  · rw [sd_succ]; omega
  · rw [sd_succ]; omega
attribute [irreducible] nxt sd dr
theorem gx_setCell {X w : World} {g : Nat} (h : X.grownBy w (some g)) (j : Nat) (v : Value) : X.grownBy (w.setCell ⟨g, j, none⟩ v) (some g) :=
  ⟨h.os, h.tape, h.output, by simpa [World.setCell] using h.size, fun i hi hne => (Below.heap_setCell w ⟨g, j, none⟩ v i (by intro e; exact hne (by rw [e]))).trans (h.block i hi hne)⟩
theorem gx_drewN {X w : World} {row : Option Nat} (h : X.grownBy w row) (n : Nat) : X.grownBy (w.drewN n) row := ⟨h.os, h.tape, h.output, h.size, h.block⟩
theorem next_any (m s : Int) (h0 : 0 ≤ m) (h1 : m ≤ 2147483647) (k g : Nat) (w : World) (hd : w.heap[g]? = some (.cells #[.int .u64 (sd s k), .int .i64 m] 70 (0, 0))) :
    Calls Tryd.prog 51 #[.pointer (some ⟨g, 0, none⟩)] w fun e w' => e = .returned (.int .i64 (dr m s k)) ∧ w'.heap[g]? = some (.cells #[.int .u64 (sd s (k + 1)), .int .i64 m] 70 (0, 0)) ∧ w.grownBy w' (some g) := by
  have H := Lib.hid (fun W => draw_any m s h0 h1 k W)
  have c0 := cell_of_row w g 0 _ 70 _ hd
  have c1 := cell_of_row w g 1 _ 70 _ hd
  have f0 : w.frozen? ⟨g, 0, none⟩ = false := by simp [World.frozen?, hd]
  have E := Lib.hid (heap_setCell_same w g 0 _ 70 (.int .u64 (sd s (k + 1))) hd)
  have G := Lib.hid (gx_setCell (World.grownBy.refl w (some g)) 0 (.int .u64 (sd s (k + 1))))
  simp at c0 c1
  clear hd h0 h1
  generalize dr m s k = d at *
  generalize sd s (k + 1) = t at *
  generalize sd s k = u at *
  go_enter Tryd.func51, Tryd.ntmps51
  go_wp2
  go_quiet ((go_at_call 35; exact Calls.quiet_of_same (H.out _)))
  all_goals go_wp2
  all_goals
    go_ret
    exact ⟨rfl, E.out, gx_drewN G.out _⟩
end Go.Proofs.YtjlaankgfpjeeaaDoor.gn

/-
  Where drawer.knapsack stands: two lists that grow in rows of their own, behind one box.
-/
namespace Go.Proofs.YtjlaankgfpjeeaaDoor.gn
open Go.RowKit
set_option linter.unusedVariables false
theorem lt_hp {w : World} {k : Nat} {o : Obj} (h : w.heap[k]? = some o) : k < w.heap.size := by
  rcases Nat.lt_or_ge k w.heap.size with hlt | hge
  · exact hlt
  · rw [Array.getElem?_eq_none hge] at h; cases h
theorem blk_ne {W : World} {a b : Nat} {c1 c2 : Array Value} {t1 t2 : TypeId} (h1 : W.heap[a]? = some (.cells c1 t1 (0, 0))) (h2 : W.heap[b]? = some (.cells c2 t2 (0, 0))) (h : t1 ≠ t2) : a ≠ b := by
  rintro rfl
  rw [h1] at h2
  injection h2 with h2
  injection h2 with _ h2
  exact h h2
theorem row_kind {w : World} {B n : Nat} {v : Value} {xs : List Value} (h : w.ownsRow B 3 1 v n xs) {x : Nat} (hx : v.ownBlock = some x) : ∃ cur, w.heap[x]? = some (.cells cur 3 (0, 0)) := by
  rcases h.2 with ⟨rfl, _⟩ | ⟨g, cap, cur, rfl, _, hg, _⟩
  · cases hx
  · injection hx with hx
    subst hx
    exact ⟨cur, hg⟩
theorem row_ne {w : World} {B n b : Nat} {v : Value} {xs : List Value} {cs : Array Value} {t : TypeId} (h : w.ownsRow B 3 1 v n xs) (hb : w.heap[b]? = some (.cells cs t (0, 0))) (ht : t ≠ 3) : v.ownBlock ≠ some b := fun e => by
  obtain ⟨cur, hc⟩ := row_kind h e
  exact blk_ne hb hc ht rfl
/-- the numbers of even and of odd places -/
def WL (m s : Int) (k : Nat) : List Int := (List.range k).map fun j => dr m s (j + j)
def VL (m s : Int) (k : Nat) : List Int := (List.range k).map fun j => dr m s (j + j + 1)
theorem WL_len (m s : Int) (k : Nat) : (WL m s k).length = k := by simp [WL]
theorem VL_len (m s : Int) (k : Nat) : (VL m s k).length = k := by simp [VL]
theorem WL_succ (m s : Int) (k : Nat) : WL m s (k + 1) = WL m s k ++ [dr m s (k + k)] := by simp [WL, List.range_succ]
theorem VL_succ (m s : Int) (k : Nat) : VL m s (k + 1) = VL m s k ++ [dr m s (k + k + 1)] := by simp [VL, List.range_succ]
attribute [irreducible] WL VL
def enc (l : List Int) : List Value := l.map (Value.int .i64)
theorem enc_app (l : List Int) (x : Int) : enc (l ++ [x]) = enc l ++ [.int .i64 x] := by simp [enc]
structure KS (m s n : Int) (g gr gi B : Nat) (w : World) (t a b : Nat) (vW vV : Value) (wr : World) : Prop where
  box : wr.heap[gi]? = some (.cells #[.int .i64 1, .int .i64 n, .int .i64 0, vW, vV, .slice none 0 0] 25 (0, 0))
  res : wr.heap[gr]? = some (.cells #[.int .i64 0, .int .i64 0, .int .i64 0, .slice none 0 0, .slice none 0 0, .slice none 0 0] 25 (0, 0))
  d : wr.heap[g]? = some (.cells #[.int .u64 (sd s t), .int .i64 m] 70 (0, 0))
  rw : wr.ownsRow B 3 1 vW a (enc (WL m s a))
  rv : wr.ownsRow B 3 1 vV b (enc (VL m s b))
  ap : ∀ x, vW.ownBlock = some x → vV.ownBlock ≠ some x
  gone : w.grownBy wr (some g)
  sz : B ≤ wr.heap.size
  lo : gi < B
  ne : gr ≠ gi
  base : w.heap.size ≤ gi
theorem KS.call {m s n : Int} {g gr gi B : Nat} {w : World} {t a b : Nat} {vW vV : Value} {wr w1 : World} (h : KS m s n g gr gi B w t a b vW vV wr) (hg : wr.grownBy w1 (some g)) (hd : w1.heap[g]? = some (.cells #[.int .u64 (sd s (t + 1)), .int .i64 m] 70 (0, 0))) : KS m s n g gr gi B w (t + 1) a b vW vV w1 := by
  have n1 : gi ≠ g := blk_ne h.box h.d (by decide)
  have n2 : gr ≠ g := blk_ne h.res h.d (by decide)
  refine ⟨(hg.block gi (lt_hp h.box) (fun e => n1 (by injection e))).trans h.box, (hg.block gr (lt_hp h.res) (fun e => n2 (by injection e))).trans h.res, hd, h.rw.kept hg (.inr (row_ne h.rw h.d (by decide))), h.rv.kept hg (.inr (row_ne h.rv h.d (by decide))), h.ap, ?_, Nat.le_trans h.sz hg.size, h.lo, h.ne, h.base⟩
  exact ⟨hg.os.trans h.gone.os, hg.tape.trans h.gone.tape, hg.output.trans h.gone.output, Nat.le_trans h.gone.size hg.size, fun i hi hne => (hg.block i (Nat.lt_of_lt_of_le hi h.gone.size) hne).trans (h.gone.block i hi hne)⟩
theorem KS.alloc {m s n : Int} {g gr gi B : Nat} {w : World} {t a b : Nat} {vW vV : Value} {wr : World} (h : KS m s n g gr gi B w t a b vW vV wr) (o : Obj) : KS m s n g gr gi B w t a b vW vV (wr.alloc o) := by
  have hb := fun k (hk : k < wr.heap.size) => Below.heap_alloc wr o k hk
  exact ⟨(hb gi (lt_hp h.box)).trans h.box, (hb gr (lt_hp h.res)).trans h.res, (hb g (lt_hp h.d)).trans h.d, h.rw.alloc o, h.rv.alloc o, h.ap,
    ⟨h.gone.os, h.gone.tape, h.gone.output, by rw [World.size_alloc]; have := h.gone.size; omega, fun i hi hne => (hb i (Nat.lt_of_lt_of_le hi h.gone.size)).trans (h.gone.block i hi hne)⟩, by rw [World.size_alloc]; have := h.sz; omega, h.lo, h.ne, h.base⟩
theorem KS.drew {m s n : Int} {g gr gi B : Nat} {w : World} {t a b : Nat} {vW vV : Value} {wr : World} (h : KS m s n g gr gi B w t a b vW vV wr) : KS m s n g gr gi B w t a b vW vV wr.drew :=
  ⟨h.box, h.res, h.d, h.rw, h.rv, h.ap, ⟨h.gone.os, h.gone.tape, h.gone.output, h.gone.size, h.gone.block⟩, h.sz, h.lo, h.ne, h.base⟩
/-- what an append to one row and a store into the box leave -/
theorem ks_other {m s n : Int} {g gr gi B : Nat} {w : World} {t a b : Nat} {vW vV : Value} {wr w1 : World} (h : KS m s n g gr gi B w t a b vW vV wr) {v : Value} {k : Nat} {xs : List Value} (hr : wr.ownsRow B 3 1 v k xs) (hgrow : wr.grownBy w1 v.ownBlock) (j : Nat) (u : Value) :
    (w1.setCell ⟨gi, j, none⟩ u).heap[gi]? = some (.cells (#[.int .i64 1, .int .i64 n, .int .i64 0, vW, vV, .slice none 0 0].setIfInBounds j u) 25 (0, 0)) ∧
    (w1.setCell ⟨gi, j, none⟩ u).heap[gr]? = some (.cells #[.int .i64 0, .int .i64 0, .int .i64 0, .slice none 0 0, .slice none 0 0, .slice none 0 0] 25 (0, 0)) ∧
    (w1.setCell ⟨gi, j, none⟩ u).heap[g]? = some (.cells #[.int .u64 (sd s t), .int .i64 m] 70 (0, 0)) ∧ w.grownBy (w1.setCell ⟨gi, j, none⟩ u) (some g) ∧ B ≤ (w1.setCell ⟨gi, j, none⟩ u).heap.size := by
  have n1 : gi ≠ g := blk_ne h.box h.d (by decide)
  have q1 := (hgrow.block gi (lt_hp h.box) (fun e => row_ne hr h.box (by decide) e.symm)).trans h.box
  have q2 := (hgrow.block gr (lt_hp h.res) (fun e => row_ne hr h.res (by decide) e.symm)).trans h.res
  have q3 := (hgrow.block g (lt_hp h.d) (fun e => row_ne hr h.d (by decide) e.symm)).trans h.d
  have hs : (w1.setCell ⟨gi, j, none⟩ u).heap.size = w1.heap.size := by simp [World.setCell]
  refine ⟨heap_setCell_same w1 gi j _ 25 u q1, (heap_setCell_other w1 ⟨gi, j, none⟩ gr u h.ne).trans q2, (heap_setCell_other w1 ⟨gi, j, none⟩ g u (Ne.symm n1)).trans q3, ⟨hgrow.os.trans h.gone.os, hgrow.tape.trans h.gone.tape, hgrow.output.trans h.gone.output, by rw [hs]; exact Nat.le_trans h.gone.size hgrow.size, fun i hi hne => ?_⟩, by rw [hs]; exact Nat.le_trans h.sz hgrow.size⟩
  have hb := h.base
  have hlo := h.lo
  rw [heap_setCell_other w1 ⟨gi, j, none⟩ i u (by show i ≠ gi; omega)]
  exact (hgrow.block i (Nat.lt_of_lt_of_le hi h.gone.size) (fun e => by have := (hr.lt i e.symm).1; omega)).trans (h.gone.block i hi hne)
theorem KS.addW {m s n : Int} {g gr gi B : Nat} {w : World} {t a b : Nat} {vW vV : Value} {wr w1 : World} (h : KS m s n g gr gi B w t a b vW vV wr) {g' cap : Nat} {x : Int} (hx : x = dr m s (a + a))
    (hown : w1.ownsRow B 3 1 (.slice (some ⟨g', 0, none⟩) (a + 1) cap) (a + 1) (enc (WL m s a) ++ [.int .i64 x])) (hgrow : wr.grownBy w1 vW.ownBlock) (hl : vW.ownBlock = some g' ∨ g' = wr.heap.size) :
    KS m s n g gr gi B w t (a + 1) b (.slice (some ⟨g', 0, none⟩) (a + 1) cap) vV (w1.setCell ⟨gi, 3, none⟩ (.slice (some ⟨g', 0, none⟩) (a + 1) cap)) := by
  obtain ⟨o1, o2, o3, o4, o5⟩ := ks_other h h.rw hgrow 3 (.slice (some ⟨g', 0, none⟩) (a + 1) cap)
  have hv : vV.ownBlock = none ∨ vV.ownBlock ≠ vW.ownBlock := by
    cases e : vW.ownBlock with
    | none => cases e2 : vV.ownBlock with
      | none => exact .inl rfl
      | some y => exact .inr (by simp)
    | some y => exact .inr (h.ap y e)
  refine ⟨o1, o2, o3, ?_, ?_, ?_, o4, o5, h.lo, h.ne, h.base⟩
  · rw [WL_succ, enc_app, ← hx]
    exact Go.RowKit.ownsRow_setCell_below hown h.lo _
  · exact Go.RowKit.ownsRow_setCell_below (h.rv.kept hgrow hv) h.lo _
  · intro y hy e
    injection hy with hy
    rcases hl with hl | hl
    · exact h.ap g' hl (by rw [e]; exact congrArg some hy.symm)
    · have := (h.rv.lt y e).2
      have : g' = y := hy
      omega
theorem KS.addV {m s n : Int} {g gr gi B : Nat} {w : World} {t a b : Nat} {vW vV : Value} {wr w1 : World} (h : KS m s n g gr gi B w t a b vW vV wr) {g' cap : Nat} {x : Int} (hx : x = dr m s (b + b + 1))
    (hown : w1.ownsRow B 3 1 (.slice (some ⟨g', 0, none⟩) (b + 1) cap) (b + 1) (enc (VL m s b) ++ [.int .i64 x])) (hgrow : wr.grownBy w1 vV.ownBlock) (hl : vV.ownBlock = some g' ∨ g' = wr.heap.size) :
    KS m s n g gr gi B w t a (b + 1) vW (.slice (some ⟨g', 0, none⟩) (b + 1) cap) (w1.setCell ⟨gi, 4, none⟩ (.slice (some ⟨g', 0, none⟩) (b + 1) cap)) := by
  obtain ⟨o1, o2, o3, o4, o5⟩ := ks_other h h.rv hgrow 4 (.slice (some ⟨g', 0, none⟩) (b + 1) cap)
  have hv : vW.ownBlock = none ∨ vW.ownBlock ≠ vV.ownBlock := by
    cases e : vW.ownBlock with
    | none => exact .inl rfl
    | some y => exact .inr (fun q => h.ap y e q.symm)
  refine ⟨o1, o2, o3, ?_, ?_, ?_, o4, o5, h.lo, h.ne, h.base⟩
  · exact Go.RowKit.ownsRow_setCell_below (h.rw.kept hgrow hv) h.lo _
  · rw [VL_succ, enc_app, ← hx]
    exact Go.RowKit.ownsRow_setCell_below hown h.lo _
  · intro y hy e
    injection e with e
    have e' : g' = y := e
    rcases hl with hl | hl
    · exact h.ap y hy (by rw [hl, e'])
    · have := (h.rw.lt y hy).2
      omega
end Go.Proofs.YtjlaankgfpjeeaaDoor.gn

/-
  What drawer.knapsack answers: its first loop.
-/
namespace Go.Proofs.YtjlaankgfpjeeaaDoor.gn
open Go.RowKit
set_option linter.unusedVariables false
theorem info3 : (Tryd.prog.info? 3).map (fun i => (i.zero, i.size, i.bytes)) = some (some (.int .i64 0), 1, 8) := by kernel_rfl
theorem bl_al {a w : World} (h : Below a.heap.size a w) (o : Obj) : Below a.heap.size a (w.alloc o) := h.alloc h.size o
theorem ks_round {m s n : Int} {g gr gi B : Nat} {w : World} {k : Nat} {vW vV : Value} {wr : World} (h : KS m s n g gr gi B w (k + k + 1 + 1) (k + 1) (k + 1) vW vV wr) : KS m s n g gr gi B w ((k + 1) + (k + 1)) (k + 1) (k + 1) vW vV wr := by
  have e : k + 1 + (k + 1) = k + k + 1 + 1 := by omega
  rw [e]; exact h
/-- the sum of the numbers of even places -/
def ps (m s : Int) : Nat → Int
  | 0 => 0
  | k + 1 => ps m s k + dr m s (k + k)
theorem ps_zero (m s : Int) : ps m s 0 = 0 := rfl
theorem ps_succ (m s : Int) (k : Nat) : ps m s (k + 1) = ps m s k + dr m s (k + k) := rfl
theorem ps_bd (m s : Int) (h0 : 0 ≤ m) (h1 : m ≤ 2147483647) : ∀ k : Nat, 0 ≤ ps m s k ∧ ps m s k ≤ (k : Int) * 2147483647
  | 0 => by rw [ps_zero]; omega
  | k + 1 => by
    have ih := ps_bd m s h0 h1 k
    have hb := dr_bd m s (k + k) h0
    rw [ps_succ]
    omega
attribute [irreducible] ps
def capOf (m s : Int) (k : Nat) : Int := if ps m s k / 2 ≤ 2147483647 then ps m s k / 2 else 2147483647
theorem WL_at (m s : Int) (n j : Nat) (h : j < n) : (enc (WL m s n))[j]? = some (.int .i64 (dr m s (j + j))) := by unfold enc WL; simp [h]
theorem VL_at (m s : Int) (n j : Nat) (h : j < n) : (enc (VL m s n))[j]? = some (.int .i64 (dr m s (j + j + 1))) := by unfold enc VL; simp [h]
theorem six {w : World} {g : Nat} {u0 u1 u2 u3 u4 u5 : Value} (h : w.heap[g]? = some (.cells #[u0, u1, u2, u3, u4, u5] 25 (0, 0))) (v0 v1 v2 v3 v4 v5 : Value) :
    ((((((w.setCell ⟨g, 0, none⟩ v0).setCell ⟨g, 1, none⟩ v1).setCell ⟨g, 2, none⟩ v2).setCell ⟨g, 3, none⟩ v3).setCell ⟨g, 4, none⟩ v4).setCell ⟨g, 5, none⟩ v5).heap[g]? = some (.cells #[v0, v1, v2, v3, v4, v5] 25 (0, 0)) :=
  heap_setCell_same _ g 5 _ 25 v5 (heap_setCell_same _ g 4 _ 25 v4 (heap_setCell_same _ g 3 _ 25 v3 (heap_setCell_same _ g 2 _ 25 v2 (heap_setCell_same _ g 1 _ 25 v1 (heap_setCell_same w g 0 _ 25 v0 h)))))
theorem box6 {W : World} {b : Nat} {v0 v1 v2 v3 v4 v5 : Value} (q : W.heap[b]? = some (.cells #[v0, v1, v2, v3, v4, v5] 25 (0, 0))) :
    W.cell? ⟨b, 0, none⟩ = some v0 ∧ W.cell? ⟨b, 1, none⟩ = some v1 ∧ W.cell? ⟨b, 2, none⟩ = some v2 ∧ W.cell? ⟨b, 3, none⟩ = some v3 ∧ W.cell? ⟨b, 4, none⟩ = some v4 ∧ W.cell? ⟨b, 5, none⟩ = some v5 :=
  ⟨cell_of_row _ _ 0 _ _ _ q, cell_of_row _ _ 1 _ _ _ q, cell_of_row _ _ 2 _ _ _ q, cell_of_row _ _ 3 _ _ _ q, cell_of_row _ _ 4 _ _ _ q, cell_of_row _ _ 5 _ _ _ q⟩
theorem gone_set {w wr : World} {g b j : Nat} (h : w.grownBy wr (some g)) (hb : w.heap.size ≤ b) (v : Value) : w.grownBy (wr.setCell ⟨b, j, none⟩ v) (some g) :=
  ⟨h.os, h.tape, h.output, by simpa [World.setCell] using h.size, fun i hi hne => (heap_setCell_other wr ⟨b, j, none⟩ i v (by show i ≠ b; omega)).trans (h.block i hi hne)⟩
/-- what knapsack answers -/
def KPost (m s : Int) (nn g : Nat) (w : World) (e : Ending) (w' : World) : Prop := ∃ gw cw gv cv : Nat, e = .returned (.agg #[.int .i64 1, .int .i64 nn, .int .i64 (capOf m s nn), .slice (some ⟨gw, 0, none⟩) nn cw, .slice (some ⟨gv, 0, none⟩) nn cv, .slice none 0 0]) ∧
  w'.ownsRow w.heap.size 3 1 (.slice (some ⟨gw, 0, none⟩) nn cw) nn (enc (WL m s nn)) ∧ w'.ownsRow w.heap.size 3 1 (.slice (some ⟨gv, 0, none⟩) nn cv) nn (enc (VL m s nn)) ∧ w.grownBy w' (some g)
set_option maxRecDepth 100000 in
set_option maxHeartbeats 4000000 in
theorem ksack_any (m s : Int) (h0 : 0 ≤ m) (h1 : m ≤ 2147483647) (nn : Nat) (n1 : 1 ≤ nn) (n2 : nn ≤ 64) (g : Nat) (w : World) (hd : w.heap[g]? = some (.cells #[.int .u64 (sd s 0), .int .i64 m] 70 (0, 0))) :
    Calls Tryd.prog 33 #[.pointer (some ⟨g, 0, none⟩), .int .i64 nn] w (KPost m s nn g w) := by
  obtain ⟨i0, hi, hz0, hz1, hz2⟩ := info_parts info3
  have K0 : Hid (KS m s nn g w.heap.size (w.heap.size + 1) (w.heap.size + 2) w (0 + 0) 0 0 (.slice none 0 0) (.slice none 0 0) ((w.alloc (.cells #[.int .i64 0, .int .i64 0, .int .i64 0, .slice none 0 0, .slice none 0 0, .slice none 0 0] 25)).alloc (.cells #[.int .i64 1, .int .i64 nn, .int .i64 0, .slice none 0 0, .slice none 0 0, .slice none 0 0] 25))) := by
    have lg := lt_hp hd
    have W0 : enc (WL m s 0) = [] := List.eq_nil_of_length_eq_zero (by simp [enc, WL_len])
    have V0 : enc (VL m s 0) = [] := List.eq_nil_of_length_eq_zero (by simp [enc, VL_len])
    have b2 := bl_al (bl_al (Below.refl w.heap.size w) (.cells #[.int .i64 0, .int .i64 0, .int .i64 0, .slice none 0 0, .slice none 0 0, .slice none 0 0] 25)) (.cells #[.int .i64 1, .int .i64 nn, .int .i64 0, .slice none 0 0, .slice none 0 0, .slice none 0 0] 25)
    refine ⟨heap_alloc2_new w _ _, heap_alloc2_old w _ _, (b2.block _ lg).trans hd, by rw [W0]; exact World.ownsRow_nil _ _ _ _, by rw [V0]; exact World.ownsRow_nil _ _ _ _, fun x hx => (by cases hx), ⟨b2.os, b2.tape, b2.output, b2.size, fun i hi _ => b2.block i hi⟩, by simp, by omega, by omega, by omega⟩
  go_enter Tryd.func33, Tryd.ntmps33
  go_wp2
  generalize hgr : w.heap.size = gr at *
  generalize hgi : gr + 1 = gi at *
  generalize hB : gr + 2 = B at *
  go_loopw [12] (fun i wr => ∃ (k : Nat) (vW vV : Value), k ≤ nn ∧ i = .int .i64 k ∧ Hid (KS m s nn g gr gi B w (k + k) k k vW vV wr)) (fun i _ => nn - (intOf i).toNat)
  case atStart => exact ⟨0, _, _, by omega, rfl, K0⟩
  case round =>
    clear K0
    obtain ⟨k, vW, vV, hk, rfl, HK⟩ := hrel
    by_cases hlt : k < nn
    · have g1 : (k : Int) < (nn : Int) := by omega
      clear hd hgr hgi hB
      go_wp2
      refine wp_region_held_drew (S := fun _ => True) (by kernel_rfl) trivial (fun hHeld => ?_)
      have HKd := Lib.hid HK.out.drew
      clear HK
      have HK := HKd
      clear HKd
      generalize World.drew _ = vu1 at *
      refine wpAnyH_take (i := 0) (v := ?vu2) (by rw [List.getElem?_toArray]; rfl) (by kernel_rfl) (by kernel_rfl) (by kernel_rfl) ?qu2 (Or.inl ⟨by rfl, ?yu2⟩) (by assumption) ?ru2
      case qu2 => exact fun _ _ _ h => h
      case yu2 => (intro wz hSw; go_simp; try (with_reducible rfl))
      simp only [Act.put, List.setIfInBounds_toArray, List.set_cons_zero, List.set_cons_succ]
      refine wpAnyH_take (i := 2) (v := ?vu3) (by rw [List.getElem?_toArray]; rfl) (by kernel_rfl) (by kernel_rfl) (by kernel_rfl) ?qu3 (Or.inl ⟨by rfl, ?yu3⟩) (by assumption) ?ru3
      case qu3 => exact fun _ _ _ h => h
      case yu3 => (intro wz hSw; go_simp; try (with_reducible rfl))
      simp only [Act.put, List.setIfInBounds_toArray, List.set_cons_zero, List.set_cons_succ]
      refine wpAnyH_ready (rs := [1, 3]) (by kernel_rfl) (by simp) ?_
      refine AllReadyH.cons (by rw [List.getElem?_toArray]; rfl) (fun K hK => ?_) (AllReadyH.cons (by rw [List.getElem?_toArray]; rfl) (fun K hK => ?_) AllReadyH.nil)
      · have c5 : vu1.cell? ⟨gi, 3, none⟩ = some vW := cell_of_row _ gi 3 _ 25 _ HK.out.box
        clear hHeld
        go_simp
        refine hK.out _ _ trivial (fun hHeld => ?_)
        clear hK K c5
        refine wpAnyH_ready (rs := [3]) (by kernel_rfl) (by simp) ?_
        refine AllReadyH.cons (by rw [List.getElem?_toArray]; rfl) (fun K hK => ?_) AllReadyH.nil
        clear hHeld
        go_simp
        go_at_call 51; refine (next_any m s h0 h1 (k + k) g _ HK.out.d).mono ?_; rintro e vu4 ⟨rfl, hd1, hg1⟩
        have HKd := Lib.hid (HK.out.call hg1 hd1)
        clear HK hd1 hg1
        have HK := HKd
        clear HKd
        go_wp2_with fail
        refine hK.out _ _ trivial (fun hHeld => ?_)
        clear hK K
        refine wpAnyH_ready (rs := [4]) (by kernel_rfl) (by simp) ?_
        refine AllReadyH.cons (by rw [List.getElem?_toArray]; rfl) (fun K hK => ?_) AllReadyH.nil
        clear hHeld
        go_simp
        have hcn := Lib.hid (cell_one_new vu4 (.int .i64 (dr m s (k + k))) 3)
        have HKd := Lib.hid (HK.out.alloc (.cells #[(.int .i64 (dr m s (k + k)))] 3))
        clear HK
        have HK := HKd
        clear HKd
        refine hK.out _ _ trivial (fun hHeld => ?_)
        clear hK K
        refine wpAnyH_ready (rs := [5]) (by kernel_rfl) (by simp) ?_
        refine AllReadyH.cons (by rw [List.getElem?_toArray]; rfl) (fun K hK => ?_) AllReadyH.nil
        clear hHeld
        rw [if_pos (by rfl)]
        refine wp_append_lies _ _ _ 22 rfl B 3 i0 (.int .i64 0) 1 8 Tryd.underlying22 hi hz0 hz1 hz2 rfl (by decide) vW k _ rfl HK.out.rw ⟨vu4.heap.size, 0, none⟩ 1 1 [(.int .i64 (dr m s (k + k)))] rfl rfl hcn.out (by simp [Value.oneCell']) (by decide) (by unfold maxLen; omega) (by omega) HK.out.sz _ rfl ?_
        intro g5 cap5 w5 hown5 hgrow5 hl5 hlt5
        refine hK.out _ _ trivial (fun hHeld => ?_)
        clear hK K hcn hlt5
        refine wpAnyH_take (i := 6) (v := ?vu5) (by rw [List.getElem?_toArray]; rfl) (by kernel_rfl) (by kernel_rfl) (by kernel_rfl) ?qu5 (Or.inl ⟨by rfl, ?yu5⟩) (by assumption) ?ru5
        case qu5 => exact fun _ _ _ h => h
        case yu5 => (intro wz hSw; go_simp; try (with_reducible rfl))
        simp only [Act.put, List.setIfInBounds_toArray, List.set_cons_zero, List.set_cons_succ]
        refine wpAnyH_ready (rs := [7]) (by kernel_rfl) (by simp) ?_
        refine AllReadyH.cons (by rw [List.getElem?_toArray]; rfl) (fun K hK => ?_) AllReadyH.nil
        clear hHeld
        have HN := Lib.hid (HK.out.addW rfl hown5 hgrow5 hl5)
        have q5 := (hgrow5.block gi (lt_hp HK.out.box) (fun e => row_ne HK.out.rw HK.out.box (by decide) e.symm)).trans HK.out.box
        have c5 := cell_of_row _ gi 3 _ 25 _ q5
        have f5 : World.frozen? _ ⟨gi, 3, none⟩ = false := frozen_of_row _ gi 3 _ 25 q5
        simp at c5
        clear hown5 hgrow5 hl5 q5 HK
        go_simp
        refine hK.out _ _ trivial (fun hHeld => ?_)
        clear hK K hHeld c5 f5
        have HK := HN
        clear HN
        refine wpAnyH_done (by kernel_rfl) ?_ _
        go_wp2
        refine wp_region_held_drew (S := fun _ => True) (by kernel_rfl) trivial (fun hHeld => ?_)
        have HKd := Lib.hid HK.out.drew
        clear HK
        have HK := HKd
        clear HKd
        generalize World.drew _ = vu6 at *
        refine wpAnyH_take (i := 0) (v := ?vu7) (by rw [List.getElem?_toArray]; rfl) (by kernel_rfl) (by kernel_rfl) (by kernel_rfl) ?qu7 (Or.inl ⟨by rfl, ?yu7⟩) (by assumption) ?ru7
        case qu7 => exact fun _ _ _ h => h
        case yu7 => (intro wz hSw; go_simp; try (with_reducible rfl))
        simp only [Act.put, List.setIfInBounds_toArray, List.set_cons_zero, List.set_cons_succ]
        refine wpAnyH_take (i := 2) (v := ?vu8) (by rw [List.getElem?_toArray]; rfl) (by kernel_rfl) (by kernel_rfl) (by kernel_rfl) ?qu8 (Or.inl ⟨by rfl, ?yu8⟩) (by assumption) ?ru8
        case qu8 => exact fun _ _ _ h => h
        case yu8 => (intro wz hSw; go_simp; try (with_reducible rfl))
        simp only [Act.put, List.setIfInBounds_toArray, List.set_cons_zero, List.set_cons_succ]
        refine wpAnyH_ready (rs := [1, 3]) (by kernel_rfl) (by simp) ?_
        refine AllReadyH.cons (by rw [List.getElem?_toArray]; rfl) (fun K hK => ?_) (AllReadyH.cons (by rw [List.getElem?_toArray]; rfl) (fun K hK => ?_) AllReadyH.nil)
        · have c5 : vu6.cell? ⟨gi, 4, none⟩ = some vV := cell_of_row _ gi 4 _ 25 _ HK.out.box
          clear hHeld
          go_simp
          refine hK.out _ _ trivial (fun hHeld => ?_)
          clear hK K c5
          refine wpAnyH_ready (rs := [3]) (by kernel_rfl) (by simp) ?_
          refine AllReadyH.cons (by rw [List.getElem?_toArray]; rfl) (fun K hK => ?_) AllReadyH.nil
          clear hHeld
          go_simp
          go_at_call 51; refine (next_any m s h0 h1 (k + k + 1) g _ HK.out.d).mono ?_; rintro e vu9 ⟨rfl, hd1, hg1⟩
          have HKd := Lib.hid (HK.out.call hg1 hd1)
          clear HK hd1 hg1
          have HK := HKd
          clear HKd
          go_wp2_with fail
          refine hK.out _ _ trivial (fun hHeld => ?_)
          clear hK K
          refine wpAnyH_ready (rs := [4]) (by kernel_rfl) (by simp) ?_
          refine AllReadyH.cons (by rw [List.getElem?_toArray]; rfl) (fun K hK => ?_) AllReadyH.nil
          clear hHeld
          go_simp
          have hcn := Lib.hid (cell_one_new vu9 (.int .i64 (dr m s (k + k + 1))) 3)
          have HKd := Lib.hid (HK.out.alloc (.cells #[(.int .i64 (dr m s (k + k + 1)))] 3))
          clear HK
          have HK := HKd
          clear HKd
          refine hK.out _ _ trivial (fun hHeld => ?_)
          clear hK K
          refine wpAnyH_ready (rs := [5]) (by kernel_rfl) (by simp) ?_
          refine AllReadyH.cons (by rw [List.getElem?_toArray]; rfl) (fun K hK => ?_) AllReadyH.nil
          clear hHeld
          rw [if_pos (by rfl)]
          refine wp_append_lies _ _ _ 22 rfl B 3 i0 (.int .i64 0) 1 8 Tryd.underlying22 hi hz0 hz1 hz2 rfl (by decide) vV k _ rfl HK.out.rv ⟨vu9.heap.size, 0, none⟩ 1 1 [(.int .i64 (dr m s (k + k + 1)))] rfl rfl hcn.out (by simp [Value.oneCell']) (by decide) (by unfold maxLen; omega) (by omega) HK.out.sz _ rfl ?_
          intro g5 cap5 w5 hown5 hgrow5 hl5 hlt5
          refine hK.out _ _ trivial (fun hHeld => ?_)
          clear hK K hcn hlt5
          refine wpAnyH_take (i := 6) (v := ?vu10) (by rw [List.getElem?_toArray]; rfl) (by kernel_rfl) (by kernel_rfl) (by kernel_rfl) ?qu10 (Or.inl ⟨by rfl, ?yu10⟩) (by assumption) ?ru10
          case qu10 => exact fun _ _ _ h => h
          case yu10 => (intro wz hSw; go_simp; try (with_reducible rfl))
          simp only [Act.put, List.setIfInBounds_toArray, List.set_cons_zero, List.set_cons_succ]
          refine wpAnyH_ready (rs := [7]) (by kernel_rfl) (by simp) ?_
          refine AllReadyH.cons (by rw [List.getElem?_toArray]; rfl) (fun K hK => ?_) AllReadyH.nil
          clear hHeld
          have HN := Lib.hid (HK.out.addV rfl hown5 hgrow5 hl5)
          have q5 := (hgrow5.block gi (lt_hp HK.out.box) (fun e => row_ne HK.out.rv HK.out.box (by decide) e.symm)).trans HK.out.box
          have c5 := cell_of_row _ gi 4 _ 25 _ q5
          have f5 : World.frozen? _ ⟨gi, 4, none⟩ = false := frozen_of_row _ gi 4 _ 25 q5
          simp at c5
          clear hown5 hgrow5 hl5 q5 HK
          go_simp
          refine hK.out _ _ trivial (fun hHeld => ?_)
          clear hK K hHeld c5 f5
          have HK := HN
          clear HN
          refine wpAnyH_done (by kernel_rfl) ?_ _
          have HKe := Lib.hid (ks_round HK.out)
          clear HK
          go_wp2
          go_roundw
          case rel => exact ⟨k + 1, _, _, by omega, by go_num, HKe⟩
          case measure => simp [intOf]; omega
        · clear hHeld
          go_simp
          go_at_call 51; refine (next_any m s h0 h1 (k + k + 1) g _ HK.out.d).mono ?_; rintro e vu11 ⟨rfl, hd1, hg1⟩
          have HKd := Lib.hid (HK.out.call hg1 hd1)
          clear HK hd1 hg1
          have HK := HKd
          clear HKd
          go_wp2_with fail
          refine hK.out _ _ trivial (fun hHeld => ?_)
          clear hK K
          refine wpAnyH_ready (rs := [1, 4]) (by kernel_rfl) (by simp) ?_
          refine AllReadyH.cons (by rw [List.getElem?_toArray]; rfl) (fun K hK => ?_) (AllReadyH.cons (by rw [List.getElem?_toArray]; rfl) (fun K hK => ?_) AllReadyH.nil)
          · have c5 : vu11.cell? ⟨gi, 4, none⟩ = some vV := cell_of_row _ gi 4 _ 25 _ HK.out.box
            clear hHeld
            go_simp
            refine hK.out _ _ trivial (fun hHeld => ?_)
            clear hK K c5
            refine wpAnyH_ready (rs := [4]) (by kernel_rfl) (by simp) ?_
            refine AllReadyH.cons (by rw [List.getElem?_toArray]; rfl) (fun K hK => ?_) AllReadyH.nil
            clear hHeld
            go_simp
            have hcn := Lib.hid (cell_one_new vu11 (.int .i64 (dr m s (k + k + 1))) 3)
            have HKd := Lib.hid (HK.out.alloc (.cells #[(.int .i64 (dr m s (k + k + 1)))] 3))
            clear HK
            have HK := HKd
            clear HKd
            refine hK.out _ _ trivial (fun hHeld => ?_)
            clear hK K
            refine wpAnyH_ready (rs := [5]) (by kernel_rfl) (by simp) ?_
            refine AllReadyH.cons (by rw [List.getElem?_toArray]; rfl) (fun K hK => ?_) AllReadyH.nil
            clear hHeld
            rw [if_pos (by rfl)]
            refine wp_append_lies _ _ _ 22 rfl B 3 i0 (.int .i64 0) 1 8 Tryd.underlying22 hi hz0 hz1 hz2 rfl (by decide) vV k _ rfl HK.out.rv ⟨vu11.heap.size, 0, none⟩ 1 1 [(.int .i64 (dr m s (k + k + 1)))] rfl rfl hcn.out (by simp [Value.oneCell']) (by decide) (by unfold maxLen; omega) (by omega) HK.out.sz _ rfl ?_
            intro g5 cap5 w5 hown5 hgrow5 hl5 hlt5
            refine hK.out _ _ trivial (fun hHeld => ?_)
            clear hK K hcn hlt5
            refine wpAnyH_take (i := 6) (v := ?vu12) (by rw [List.getElem?_toArray]; rfl) (by kernel_rfl) (by kernel_rfl) (by kernel_rfl) ?qu12 (Or.inl ⟨by rfl, ?yu12⟩) (by assumption) ?ru12
            case qu12 => exact fun _ _ _ h => h
            case yu12 => (intro wz hSw; go_simp; try (with_reducible rfl))
            simp only [Act.put, List.setIfInBounds_toArray, List.set_cons_zero, List.set_cons_succ]
            refine wpAnyH_ready (rs := [7]) (by kernel_rfl) (by simp) ?_
            refine AllReadyH.cons (by rw [List.getElem?_toArray]; rfl) (fun K hK => ?_) AllReadyH.nil
            clear hHeld
            have HN := Lib.hid (HK.out.addV rfl hown5 hgrow5 hl5)
            have q5 := (hgrow5.block gi (lt_hp HK.out.box) (fun e => row_ne HK.out.rv HK.out.box (by decide) e.symm)).trans HK.out.box
            have c5 := cell_of_row _ gi 4 _ 25 _ q5
            have f5 : World.frozen? _ ⟨gi, 4, none⟩ = false := frozen_of_row _ gi 4 _ 25 q5
            simp at c5
            clear hown5 hgrow5 hl5 q5 HK
            go_simp
            refine hK.out _ _ trivial (fun hHeld => ?_)
            clear hK K hHeld c5 f5
            have HK := HN
            clear HN
            refine wpAnyH_done (by kernel_rfl) ?_ _
            have HKe := Lib.hid (ks_round HK.out)
            clear HK
            go_wp2
            go_roundw
            case rel => exact ⟨k + 1, _, _, by omega, by go_num, HKe⟩
            case measure => simp [intOf]; omega
          · clear hHeld
            go_simp
            have hcn := Lib.hid (cell_one_new vu11 (.int .i64 (dr m s (k + k + 1))) 3)
            have HKd := Lib.hid (HK.out.alloc (.cells #[(.int .i64 (dr m s (k + k + 1)))] 3))
            clear HK
            have HK := HKd
            clear HKd
            refine hK.out _ _ trivial (fun hHeld => ?_)
            clear hK K
            refine wpAnyH_ready (rs := [1]) (by kernel_rfl) (by simp) ?_
            refine AllReadyH.cons (by rw [List.getElem?_toArray]; rfl) (fun K hK => ?_) AllReadyH.nil
            have c5 : (vu11.alloc (.cells #[(.int .i64 (dr m s (k + k + 1)))] 3)).cell? ⟨gi, 4, none⟩ = some vV := cell_of_row _ gi 4 _ 25 _ HK.out.box
            clear hHeld
            go_simp
            refine hK.out _ _ trivial (fun hHeld => ?_)
            clear hK K c5
            refine wpAnyH_ready (rs := [5]) (by kernel_rfl) (by simp) ?_
            refine AllReadyH.cons (by rw [List.getElem?_toArray]; rfl) (fun K hK => ?_) AllReadyH.nil
            clear hHeld
            rw [if_pos (by rfl)]
            refine wp_append_lies _ _ _ 22 rfl B 3 i0 (.int .i64 0) 1 8 Tryd.underlying22 hi hz0 hz1 hz2 rfl (by decide) vV k _ rfl HK.out.rv ⟨vu11.heap.size, 0, none⟩ 1 1 [(.int .i64 (dr m s (k + k + 1)))] rfl rfl hcn.out (by simp [Value.oneCell']) (by decide) (by unfold maxLen; omega) (by omega) HK.out.sz _ rfl ?_
            intro g5 cap5 w5 hown5 hgrow5 hl5 hlt5
            refine hK.out _ _ trivial (fun hHeld => ?_)
            clear hK K hcn hlt5
            refine wpAnyH_take (i := 6) (v := ?vu13) (by rw [List.getElem?_toArray]; rfl) (by kernel_rfl) (by kernel_rfl) (by kernel_rfl) ?qu13 (Or.inl ⟨by rfl, ?yu13⟩) (by assumption) ?ru13
            case qu13 => exact fun _ _ _ h => h
            case yu13 => (intro wz hSw; go_simp; try (with_reducible rfl))
            simp only [Act.put, List.setIfInBounds_toArray, List.set_cons_zero, List.set_cons_succ]
            refine wpAnyH_ready (rs := [7]) (by kernel_rfl) (by simp) ?_
            refine AllReadyH.cons (by rw [List.getElem?_toArray]; rfl) (fun K hK => ?_) AllReadyH.nil
            clear hHeld
            have HN := Lib.hid (HK.out.addV rfl hown5 hgrow5 hl5)
            have q5 := (hgrow5.block gi (lt_hp HK.out.box) (fun e => row_ne HK.out.rv HK.out.box (by decide) e.symm)).trans HK.out.box
            have c5 := cell_of_row _ gi 4 _ 25 _ q5
            have f5 : World.frozen? _ ⟨gi, 4, none⟩ = false := frozen_of_row _ gi 4 _ 25 q5
            simp at c5
            clear hown5 hgrow5 hl5 q5 HK
            go_simp
            refine hK.out _ _ trivial (fun hHeld => ?_)
            clear hK K hHeld c5 f5
            have HK := HN
            clear HN
            refine wpAnyH_done (by kernel_rfl) ?_ _
            have HKe := Lib.hid (ks_round HK.out)
            clear HK
            go_wp2
            go_roundw
            case rel => exact ⟨k + 1, _, _, by omega, by go_num, HKe⟩
            case measure => simp [intOf]; omega
      · clear hHeld
        go_simp
        go_at_call 51; refine (next_any m s h0 h1 (k + k) g _ HK.out.d).mono ?_; rintro e vu14 ⟨rfl, hd1, hg1⟩
        have HKd := Lib.hid (HK.out.call hg1 hd1)
        clear HK hd1 hg1
        have HK := HKd
        clear HKd
        go_wp2_with fail
        refine hK.out _ _ trivial (fun hHeld => ?_)
        clear hK K
        refine wpAnyH_ready (rs := [1, 4]) (by kernel_rfl) (by simp) ?_
        refine AllReadyH.cons (by rw [List.getElem?_toArray]; rfl) (fun K hK => ?_) (AllReadyH.cons (by rw [List.getElem?_toArray]; rfl) (fun K hK => ?_) AllReadyH.nil)
        · have c5 : vu14.cell? ⟨gi, 3, none⟩ = some vW := cell_of_row _ gi 3 _ 25 _ HK.out.box
          clear hHeld
          go_simp
          refine hK.out _ _ trivial (fun hHeld => ?_)
          clear hK K c5
          refine wpAnyH_ready (rs := [4]) (by kernel_rfl) (by simp) ?_
          refine AllReadyH.cons (by rw [List.getElem?_toArray]; rfl) (fun K hK => ?_) AllReadyH.nil
          clear hHeld
          go_simp
          have hcn := Lib.hid (cell_one_new vu14 (.int .i64 (dr m s (k + k))) 3)
          have HKd := Lib.hid (HK.out.alloc (.cells #[(.int .i64 (dr m s (k + k)))] 3))
          clear HK
          have HK := HKd
          clear HKd
          refine hK.out _ _ trivial (fun hHeld => ?_)
          clear hK K
          refine wpAnyH_ready (rs := [5]) (by kernel_rfl) (by simp) ?_
          refine AllReadyH.cons (by rw [List.getElem?_toArray]; rfl) (fun K hK => ?_) AllReadyH.nil
          clear hHeld
          rw [if_pos (by rfl)]
          refine wp_append_lies _ _ _ 22 rfl B 3 i0 (.int .i64 0) 1 8 Tryd.underlying22 hi hz0 hz1 hz2 rfl (by decide) vW k _ rfl HK.out.rw ⟨vu14.heap.size, 0, none⟩ 1 1 [(.int .i64 (dr m s (k + k)))] rfl rfl hcn.out (by simp [Value.oneCell']) (by decide) (by unfold maxLen; omega) (by omega) HK.out.sz _ rfl ?_
          intro g5 cap5 w5 hown5 hgrow5 hl5 hlt5
          refine hK.out _ _ trivial (fun hHeld => ?_)
          clear hK K hcn hlt5
          refine wpAnyH_take (i := 6) (v := ?vu15) (by rw [List.getElem?_toArray]; rfl) (by kernel_rfl) (by kernel_rfl) (by kernel_rfl) ?qu15 (Or.inl ⟨by rfl, ?yu15⟩) (by assumption) ?ru15
          case qu15 => exact fun _ _ _ h => h
          case yu15 => (intro wz hSw; go_simp; try (with_reducible rfl))
          simp only [Act.put, List.setIfInBounds_toArray, List.set_cons_zero, List.set_cons_succ]
          refine wpAnyH_ready (rs := [7]) (by kernel_rfl) (by simp) ?_
          refine AllReadyH.cons (by rw [List.getElem?_toArray]; rfl) (fun K hK => ?_) AllReadyH.nil
          clear hHeld
          have HN := Lib.hid (HK.out.addW rfl hown5 hgrow5 hl5)
          have q5 := (hgrow5.block gi (lt_hp HK.out.box) (fun e => row_ne HK.out.rw HK.out.box (by decide) e.symm)).trans HK.out.box
          have c5 := cell_of_row _ gi 3 _ 25 _ q5
          have f5 : World.frozen? _ ⟨gi, 3, none⟩ = false := frozen_of_row _ gi 3 _ 25 q5
          simp at c5
          clear hown5 hgrow5 hl5 q5 HK
          go_simp
          refine hK.out _ _ trivial (fun hHeld => ?_)
          clear hK K hHeld c5 f5
          have HK := HN
          clear HN
          refine wpAnyH_done (by kernel_rfl) ?_ _
          go_wp2
          refine wp_region_held_drew (S := fun _ => True) (by kernel_rfl) trivial (fun hHeld => ?_)
          have HKd := Lib.hid HK.out.drew
          clear HK
          have HK := HKd
          clear HKd
          generalize World.drew _ = vu16 at *
          refine wpAnyH_take (i := 0) (v := ?vu17) (by rw [List.getElem?_toArray]; rfl) (by kernel_rfl) (by kernel_rfl) (by kernel_rfl) ?qu17 (Or.inl ⟨by rfl, ?yu17⟩) (by assumption) ?ru17
          case qu17 => exact fun _ _ _ h => h
          case yu17 => (intro wz hSw; go_simp; try (with_reducible rfl))
          simp only [Act.put, List.setIfInBounds_toArray, List.set_cons_zero, List.set_cons_succ]
          refine wpAnyH_take (i := 2) (v := ?vu18) (by rw [List.getElem?_toArray]; rfl) (by kernel_rfl) (by kernel_rfl) (by kernel_rfl) ?qu18 (Or.inl ⟨by rfl, ?yu18⟩) (by assumption) ?ru18
          case qu18 => exact fun _ _ _ h => h
          case yu18 => (intro wz hSw; go_simp; try (with_reducible rfl))
          simp only [Act.put, List.setIfInBounds_toArray, List.set_cons_zero, List.set_cons_succ]
          refine wpAnyH_ready (rs := [1, 3]) (by kernel_rfl) (by simp) ?_
          refine AllReadyH.cons (by rw [List.getElem?_toArray]; rfl) (fun K hK => ?_) (AllReadyH.cons (by rw [List.getElem?_toArray]; rfl) (fun K hK => ?_) AllReadyH.nil)
          · have c5 : vu16.cell? ⟨gi, 4, none⟩ = some vV := cell_of_row _ gi 4 _ 25 _ HK.out.box
            clear hHeld
            go_simp
            refine hK.out _ _ trivial (fun hHeld => ?_)
            clear hK K c5
            refine wpAnyH_ready (rs := [3]) (by kernel_rfl) (by simp) ?_
            refine AllReadyH.cons (by rw [List.getElem?_toArray]; rfl) (fun K hK => ?_) AllReadyH.nil
            clear hHeld
            go_simp
            go_at_call 51; refine (next_any m s h0 h1 (k + k + 1) g _ HK.out.d).mono ?_; rintro e vu19 ⟨rfl, hd1, hg1⟩
            have HKd := Lib.hid (HK.out.call hg1 hd1)
            clear HK hd1 hg1
            have HK := HKd
            clear HKd
            go_wp2_with fail
            refine hK.out _ _ trivial (fun hHeld => ?_)
            clear hK K
            refine wpAnyH_ready (rs := [4]) (by kernel_rfl) (by simp) ?_
            refine AllReadyH.cons (by rw [List.getElem?_toArray]; rfl) (fun K hK => ?_) AllReadyH.nil
            clear hHeld
            go_simp
            have hcn := Lib.hid (cell_one_new vu19 (.int .i64 (dr m s (k + k + 1))) 3)
            have HKd := Lib.hid (HK.out.alloc (.cells #[(.int .i64 (dr m s (k + k + 1)))] 3))
            clear HK
            have HK := HKd
            clear HKd
            refine hK.out _ _ trivial (fun hHeld => ?_)
            clear hK K
            refine wpAnyH_ready (rs := [5]) (by kernel_rfl) (by simp) ?_
            refine AllReadyH.cons (by rw [List.getElem?_toArray]; rfl) (fun K hK => ?_) AllReadyH.nil
            clear hHeld
            rw [if_pos (by rfl)]
            refine wp_append_lies _ _ _ 22 rfl B 3 i0 (.int .i64 0) 1 8 Tryd.underlying22 hi hz0 hz1 hz2 rfl (by decide) vV k _ rfl HK.out.rv ⟨vu19.heap.size, 0, none⟩ 1 1 [(.int .i64 (dr m s (k + k + 1)))] rfl rfl hcn.out (by simp [Value.oneCell']) (by decide) (by unfold maxLen; omega) (by omega) HK.out.sz _ rfl ?_
            intro g5 cap5 w5 hown5 hgrow5 hl5 hlt5
            refine hK.out _ _ trivial (fun hHeld => ?_)
            clear hK K hcn hlt5
            refine wpAnyH_take (i := 6) (v := ?vu20) (by rw [List.getElem?_toArray]; rfl) (by kernel_rfl) (by kernel_rfl) (by kernel_rfl) ?qu20 (Or.inl ⟨by rfl, ?yu20⟩) (by assumption) ?ru20
            case qu20 => exact fun _ _ _ h => h
            case yu20 => (intro wz hSw; go_simp; try (with_reducible rfl))
            simp only [Act.put, List.setIfInBounds_toArray, List.set_cons_zero, List.set_cons_succ]
            refine wpAnyH_ready (rs := [7]) (by kernel_rfl) (by simp) ?_
            refine AllReadyH.cons (by rw [List.getElem?_toArray]; rfl) (fun K hK => ?_) AllReadyH.nil
            clear hHeld
            have HN := Lib.hid (HK.out.addV rfl hown5 hgrow5 hl5)
            have q5 := (hgrow5.block gi (lt_hp HK.out.box) (fun e => row_ne HK.out.rv HK.out.box (by decide) e.symm)).trans HK.out.box
            have c5 := cell_of_row _ gi 4 _ 25 _ q5
            have f5 : World.frozen? _ ⟨gi, 4, none⟩ = false := frozen_of_row _ gi 4 _ 25 q5
            simp at c5
            clear hown5 hgrow5 hl5 q5 HK
            go_simp
            refine hK.out _ _ trivial (fun hHeld => ?_)
            clear hK K hHeld c5 f5
            have HK := HN
            clear HN
            refine wpAnyH_done (by kernel_rfl) ?_ _
            have HKe := Lib.hid (ks_round HK.out)
            clear HK
            go_wp2
            go_roundw
            case rel => exact ⟨k + 1, _, _, by omega, by go_num, HKe⟩
            case measure => simp [intOf]; omega
          · clear hHeld
            go_simp
            go_at_call 51; refine (next_any m s h0 h1 (k + k + 1) g _ HK.out.d).mono ?_; rintro e vu21 ⟨rfl, hd1, hg1⟩
            have HKd := Lib.hid (HK.out.call hg1 hd1)
            clear HK hd1 hg1
            have HK := HKd
            clear HKd
            go_wp2_with fail
            refine hK.out _ _ trivial (fun hHeld => ?_)
            clear hK K
            refine wpAnyH_ready (rs := [1, 4]) (by kernel_rfl) (by simp) ?_
            refine AllReadyH.cons (by rw [List.getElem?_toArray]; rfl) (fun K hK => ?_) (AllReadyH.cons (by rw [List.getElem?_toArray]; rfl) (fun K hK => ?_) AllReadyH.nil)
            · have c5 : vu21.cell? ⟨gi, 4, none⟩ = some vV := cell_of_row _ gi 4 _ 25 _ HK.out.box
              clear hHeld
              go_simp
              refine hK.out _ _ trivial (fun hHeld => ?_)
              clear hK K c5
              refine wpAnyH_ready (rs := [4]) (by kernel_rfl) (by simp) ?_
              refine AllReadyH.cons (by rw [List.getElem?_toArray]; rfl) (fun K hK => ?_) AllReadyH.nil
              clear hHeld
              go_simp
              have hcn := Lib.hid (cell_one_new vu21 (.int .i64 (dr m s (k + k + 1))) 3)
              have HKd := Lib.hid (HK.out.alloc (.cells #[(.int .i64 (dr m s (k + k + 1)))] 3))
              clear HK
              have HK := HKd
              clear HKd
              refine hK.out _ _ trivial (fun hHeld => ?_)
              clear hK K
              refine wpAnyH_ready (rs := [5]) (by kernel_rfl) (by simp) ?_
              refine AllReadyH.cons (by rw [List.getElem?_toArray]; rfl) (fun K hK => ?_) AllReadyH.nil
              clear hHeld
              rw [if_pos (by rfl)]
              refine wp_append_lies _ _ _ 22 rfl B 3 i0 (.int .i64 0) 1 8 Tryd.underlying22 hi hz0 hz1 hz2 rfl (by decide) vV k _ rfl HK.out.rv ⟨vu21.heap.size, 0, none⟩ 1 1 [(.int .i64 (dr m s (k + k + 1)))] rfl rfl hcn.out (by simp [Value.oneCell']) (by decide) (by unfold maxLen; omega) (by omega) HK.out.sz _ rfl ?_
              intro g5 cap5 w5 hown5 hgrow5 hl5 hlt5
              refine hK.out _ _ trivial (fun hHeld => ?_)
              clear hK K hcn hlt5
              refine wpAnyH_take (i := 6) (v := ?vu22) (by rw [List.getElem?_toArray]; rfl) (by kernel_rfl) (by kernel_rfl) (by kernel_rfl) ?qu22 (Or.inl ⟨by rfl, ?yu22⟩) (by assumption) ?ru22
              case qu22 => exact fun _ _ _ h => h
              case yu22 => (intro wz hSw; go_simp; try (with_reducible rfl))
              simp only [Act.put, List.setIfInBounds_toArray, List.set_cons_zero, List.set_cons_succ]
              refine wpAnyH_ready (rs := [7]) (by kernel_rfl) (by simp) ?_
              refine AllReadyH.cons (by rw [List.getElem?_toArray]; rfl) (fun K hK => ?_) AllReadyH.nil
              clear hHeld
              have HN := Lib.hid (HK.out.addV rfl hown5 hgrow5 hl5)
              have q5 := (hgrow5.block gi (lt_hp HK.out.box) (fun e => row_ne HK.out.rv HK.out.box (by decide) e.symm)).trans HK.out.box
              have c5 := cell_of_row _ gi 4 _ 25 _ q5
              have f5 : World.frozen? _ ⟨gi, 4, none⟩ = false := frozen_of_row _ gi 4 _ 25 q5
              simp at c5
              clear hown5 hgrow5 hl5 q5 HK
              go_simp
              refine hK.out _ _ trivial (fun hHeld => ?_)
              clear hK K hHeld c5 f5
              have HK := HN
              clear HN
              refine wpAnyH_done (by kernel_rfl) ?_ _
              have HKe := Lib.hid (ks_round HK.out)
              clear HK
              go_wp2
              go_roundw
              case rel => exact ⟨k + 1, _, _, by omega, by go_num, HKe⟩
              case measure => simp [intOf]; omega
            · clear hHeld
              go_simp
              have hcn := Lib.hid (cell_one_new vu21 (.int .i64 (dr m s (k + k + 1))) 3)
              have HKd := Lib.hid (HK.out.alloc (.cells #[(.int .i64 (dr m s (k + k + 1)))] 3))
              clear HK
              have HK := HKd
              clear HKd
              refine hK.out _ _ trivial (fun hHeld => ?_)
              clear hK K
              refine wpAnyH_ready (rs := [1]) (by kernel_rfl) (by simp) ?_
              refine AllReadyH.cons (by rw [List.getElem?_toArray]; rfl) (fun K hK => ?_) AllReadyH.nil
              have c5 : (vu21.alloc (.cells #[(.int .i64 (dr m s (k + k + 1)))] 3)).cell? ⟨gi, 4, none⟩ = some vV := cell_of_row _ gi 4 _ 25 _ HK.out.box
              clear hHeld
              go_simp
              refine hK.out _ _ trivial (fun hHeld => ?_)
              clear hK K c5
              refine wpAnyH_ready (rs := [5]) (by kernel_rfl) (by simp) ?_
              refine AllReadyH.cons (by rw [List.getElem?_toArray]; rfl) (fun K hK => ?_) AllReadyH.nil
              clear hHeld
              rw [if_pos (by rfl)]
              refine wp_append_lies _ _ _ 22 rfl B 3 i0 (.int .i64 0) 1 8 Tryd.underlying22 hi hz0 hz1 hz2 rfl (by decide) vV k _ rfl HK.out.rv ⟨vu21.heap.size, 0, none⟩ 1 1 [(.int .i64 (dr m s (k + k + 1)))] rfl rfl hcn.out (by simp [Value.oneCell']) (by decide) (by unfold maxLen; omega) (by omega) HK.out.sz _ rfl ?_
              intro g5 cap5 w5 hown5 hgrow5 hl5 hlt5
              refine hK.out _ _ trivial (fun hHeld => ?_)
              clear hK K hcn hlt5
              refine wpAnyH_take (i := 6) (v := ?vu23) (by rw [List.getElem?_toArray]; rfl) (by kernel_rfl) (by kernel_rfl) (by kernel_rfl) ?qu23 (Or.inl ⟨by rfl, ?yu23⟩) (by assumption) ?ru23
              case qu23 => exact fun _ _ _ h => h
              case yu23 => (intro wz hSw; go_simp; try (with_reducible rfl))
              simp only [Act.put, List.setIfInBounds_toArray, List.set_cons_zero, List.set_cons_succ]
              refine wpAnyH_ready (rs := [7]) (by kernel_rfl) (by simp) ?_
              refine AllReadyH.cons (by rw [List.getElem?_toArray]; rfl) (fun K hK => ?_) AllReadyH.nil
              clear hHeld
              have HN := Lib.hid (HK.out.addV rfl hown5 hgrow5 hl5)
              have q5 := (hgrow5.block gi (lt_hp HK.out.box) (fun e => row_ne HK.out.rv HK.out.box (by decide) e.symm)).trans HK.out.box
              have c5 := cell_of_row _ gi 4 _ 25 _ q5
              have f5 : World.frozen? _ ⟨gi, 4, none⟩ = false := frozen_of_row _ gi 4 _ 25 q5
              simp at c5
              clear hown5 hgrow5 hl5 q5 HK
              go_simp
              refine hK.out _ _ trivial (fun hHeld => ?_)
              clear hK K hHeld c5 f5
              have HK := HN
              clear HN
              refine wpAnyH_done (by kernel_rfl) ?_ _
              have HKe := Lib.hid (ks_round HK.out)
              clear HK
              go_wp2
              go_roundw
              case rel => exact ⟨k + 1, _, _, by omega, by go_num, HKe⟩
              case measure => simp [intOf]; omega
        · clear hHeld
          go_simp
          have hcn := Lib.hid (cell_one_new vu14 (.int .i64 (dr m s (k + k))) 3)
          have HKd := Lib.hid (HK.out.alloc (.cells #[(.int .i64 (dr m s (k + k)))] 3))
          clear HK
          have HK := HKd
          clear HKd
          refine hK.out _ _ trivial (fun hHeld => ?_)
          clear hK K
          refine wpAnyH_ready (rs := [1]) (by kernel_rfl) (by simp) ?_
          refine AllReadyH.cons (by rw [List.getElem?_toArray]; rfl) (fun K hK => ?_) AllReadyH.nil
          have c5 : (vu14.alloc (.cells #[(.int .i64 (dr m s (k + k)))] 3)).cell? ⟨gi, 3, none⟩ = some vW := cell_of_row _ gi 3 _ 25 _ HK.out.box
          clear hHeld
          go_simp
          refine hK.out _ _ trivial (fun hHeld => ?_)
          clear hK K c5
          refine wpAnyH_ready (rs := [5]) (by kernel_rfl) (by simp) ?_
          refine AllReadyH.cons (by rw [List.getElem?_toArray]; rfl) (fun K hK => ?_) AllReadyH.nil
          clear hHeld
          rw [if_pos (by rfl)]
          refine wp_append_lies _ _ _ 22 rfl B 3 i0 (.int .i64 0) 1 8 Tryd.underlying22 hi hz0 hz1 hz2 rfl (by decide) vW k _ rfl HK.out.rw ⟨vu14.heap.size, 0, none⟩ 1 1 [(.int .i64 (dr m s (k + k)))] rfl rfl hcn.out (by simp [Value.oneCell']) (by decide) (by unfold maxLen; omega) (by omega) HK.out.sz _ rfl ?_
          intro g5 cap5 w5 hown5 hgrow5 hl5 hlt5
          refine hK.out _ _ trivial (fun hHeld => ?_)
          clear hK K hcn hlt5
          refine wpAnyH_take (i := 6) (v := ?vu24) (by rw [List.getElem?_toArray]; rfl) (by kernel_rfl) (by kernel_rfl) (by kernel_rfl) ?qu24 (Or.inl ⟨by rfl, ?yu24⟩) (by assumption) ?ru24
          case qu24 => exact fun _ _ _ h => h
          case yu24 => (intro wz hSw; go_simp; try (with_reducible rfl))
          simp only [Act.put, List.setIfInBounds_toArray, List.set_cons_zero, List.set_cons_succ]
          refine wpAnyH_ready (rs := [7]) (by kernel_rfl) (by simp) ?_
          refine AllReadyH.cons (by rw [List.getElem?_toArray]; rfl) (fun K hK => ?_) AllReadyH.nil
          clear hHeld
          have HN := Lib.hid (HK.out.addW rfl hown5 hgrow5 hl5)
          have q5 := (hgrow5.block gi (lt_hp HK.out.box) (fun e => row_ne HK.out.rw HK.out.box (by decide) e.symm)).trans HK.out.box
          have c5 := cell_of_row _ gi 3 _ 25 _ q5
          have f5 : World.frozen? _ ⟨gi, 3, none⟩ = false := frozen_of_row _ gi 3 _ 25 q5
          simp at c5
          clear hown5 hgrow5 hl5 q5 HK
          go_simp
          refine hK.out _ _ trivial (fun hHeld => ?_)
          clear hK K hHeld c5 f5
          have HK := HN
          clear HN
          refine wpAnyH_done (by kernel_rfl) ?_ _
          go_wp2
          refine wp_region_held_drew (S := fun _ => True) (by kernel_rfl) trivial (fun hHeld => ?_)
          have HKd := Lib.hid HK.out.drew
          clear HK
          have HK := HKd
          clear HKd
          generalize World.drew _ = vu25 at *
          refine wpAnyH_take (i := 0) (v := ?vu26) (by rw [List.getElem?_toArray]; rfl) (by kernel_rfl) (by kernel_rfl) (by kernel_rfl) ?qu26 (Or.inl ⟨by rfl, ?yu26⟩) (by assumption) ?ru26
          case qu26 => exact fun _ _ _ h => h
          case yu26 => (intro wz hSw; go_simp; try (with_reducible rfl))
          simp only [Act.put, List.setIfInBounds_toArray, List.set_cons_zero, List.set_cons_succ]
          refine wpAnyH_take (i := 2) (v := ?vu27) (by rw [List.getElem?_toArray]; rfl) (by kernel_rfl) (by kernel_rfl) (by kernel_rfl) ?qu27 (Or.inl ⟨by rfl, ?yu27⟩) (by assumption) ?ru27
          case qu27 => exact fun _ _ _ h => h
          case yu27 => (intro wz hSw; go_simp; try (with_reducible rfl))
          simp only [Act.put, List.setIfInBounds_toArray, List.set_cons_zero, List.set_cons_succ]
          refine wpAnyH_ready (rs := [1, 3]) (by kernel_rfl) (by simp) ?_
          refine AllReadyH.cons (by rw [List.getElem?_toArray]; rfl) (fun K hK => ?_) (AllReadyH.cons (by rw [List.getElem?_toArray]; rfl) (fun K hK => ?_) AllReadyH.nil)
          · have c5 : vu25.cell? ⟨gi, 4, none⟩ = some vV := cell_of_row _ gi 4 _ 25 _ HK.out.box
            clear hHeld
            go_simp
            refine hK.out _ _ trivial (fun hHeld => ?_)
            clear hK K c5
            refine wpAnyH_ready (rs := [3]) (by kernel_rfl) (by simp) ?_
            refine AllReadyH.cons (by rw [List.getElem?_toArray]; rfl) (fun K hK => ?_) AllReadyH.nil
            clear hHeld
            go_simp
            go_at_call 51; refine (next_any m s h0 h1 (k + k + 1) g _ HK.out.d).mono ?_; rintro e vu28 ⟨rfl, hd1, hg1⟩
            have HKd := Lib.hid (HK.out.call hg1 hd1)
            clear HK hd1 hg1
            have HK := HKd
            clear HKd
            go_wp2_with fail
            refine hK.out _ _ trivial (fun hHeld => ?_)
            clear hK K
            refine wpAnyH_ready (rs := [4]) (by kernel_rfl) (by simp) ?_
            refine AllReadyH.cons (by rw [List.getElem?_toArray]; rfl) (fun K hK => ?_) AllReadyH.nil
            clear hHeld
            go_simp
            have hcn := Lib.hid (cell_one_new vu28 (.int .i64 (dr m s (k + k + 1))) 3)
            have HKd := Lib.hid (HK.out.alloc (.cells #[(.int .i64 (dr m s (k + k + 1)))] 3))
            clear HK
            have HK := HKd
            clear HKd
            refine hK.out _ _ trivial (fun hHeld => ?_)
            clear hK K
            refine wpAnyH_ready (rs := [5]) (by kernel_rfl) (by simp) ?_
            refine AllReadyH.cons (by rw [List.getElem?_toArray]; rfl) (fun K hK => ?_) AllReadyH.nil
            clear hHeld
            rw [if_pos (by rfl)]
            refine wp_append_lies _ _ _ 22 rfl B 3 i0 (.int .i64 0) 1 8 Tryd.underlying22 hi hz0 hz1 hz2 rfl (by decide) vV k _ rfl HK.out.rv ⟨vu28.heap.size, 0, none⟩ 1 1 [(.int .i64 (dr m s (k + k + 1)))] rfl rfl hcn.out (by simp [Value.oneCell']) (by decide) (by unfold maxLen; omega) (by omega) HK.out.sz _ rfl ?_
            intro g5 cap5 w5 hown5 hgrow5 hl5 hlt5
            refine hK.out _ _ trivial (fun hHeld => ?_)
            clear hK K hcn hlt5
            refine wpAnyH_take (i := 6) (v := ?vu29) (by rw [List.getElem?_toArray]; rfl) (by kernel_rfl) (by kernel_rfl) (by kernel_rfl) ?qu29 (Or.inl ⟨by rfl, ?yu29⟩) (by assumption) ?ru29
            case qu29 => exact fun _ _ _ h => h
            case yu29 => (intro wz hSw; go_simp; try (with_reducible rfl))
            simp only [Act.put, List.setIfInBounds_toArray, List.set_cons_zero, List.set_cons_succ]
            refine wpAnyH_ready (rs := [7]) (by kernel_rfl) (by simp) ?_
            refine AllReadyH.cons (by rw [List.getElem?_toArray]; rfl) (fun K hK => ?_) AllReadyH.nil
            clear hHeld
            have HN := Lib.hid (HK.out.addV rfl hown5 hgrow5 hl5)
            have q5 := (hgrow5.block gi (lt_hp HK.out.box) (fun e => row_ne HK.out.rv HK.out.box (by decide) e.symm)).trans HK.out.box
            have c5 := cell_of_row _ gi 4 _ 25 _ q5
            have f5 : World.frozen? _ ⟨gi, 4, none⟩ = false := frozen_of_row _ gi 4 _ 25 q5
            simp at c5
            clear hown5 hgrow5 hl5 q5 HK
            go_simp
            refine hK.out _ _ trivial (fun hHeld => ?_)
            clear hK K hHeld c5 f5
            have HK := HN
            clear HN
            refine wpAnyH_done (by kernel_rfl) ?_ _
            have HKe := Lib.hid (ks_round HK.out)
            clear HK
            go_wp2
            go_roundw
            case rel => exact ⟨k + 1, _, _, by omega, by go_num, HKe⟩
            case measure => simp [intOf]; omega
          · clear hHeld
            go_simp
            go_at_call 51; refine (next_any m s h0 h1 (k + k + 1) g _ HK.out.d).mono ?_; rintro e vu30 ⟨rfl, hd1, hg1⟩
            have HKd := Lib.hid (HK.out.call hg1 hd1)
            clear HK hd1 hg1
            have HK := HKd
            clear HKd
            go_wp2_with fail
            refine hK.out _ _ trivial (fun hHeld => ?_)
            clear hK K
            refine wpAnyH_ready (rs := [1, 4]) (by kernel_rfl) (by simp) ?_
            refine AllReadyH.cons (by rw [List.getElem?_toArray]; rfl) (fun K hK => ?_) (AllReadyH.cons (by rw [List.getElem?_toArray]; rfl) (fun K hK => ?_) AllReadyH.nil)
            · have c5 : vu30.cell? ⟨gi, 4, none⟩ = some vV := cell_of_row _ gi 4 _ 25 _ HK.out.box
              clear hHeld
              go_simp
              refine hK.out _ _ trivial (fun hHeld => ?_)
              clear hK K c5
              refine wpAnyH_ready (rs := [4]) (by kernel_rfl) (by simp) ?_
              refine AllReadyH.cons (by rw [List.getElem?_toArray]; rfl) (fun K hK => ?_) AllReadyH.nil
              clear hHeld
              go_simp
              have hcn := Lib.hid (cell_one_new vu30 (.int .i64 (dr m s (k + k + 1))) 3)
              have HKd := Lib.hid (HK.out.alloc (.cells #[(.int .i64 (dr m s (k + k + 1)))] 3))
              clear HK
              have HK := HKd
              clear HKd
              refine hK.out _ _ trivial (fun hHeld => ?_)
              clear hK K
              refine wpAnyH_ready (rs := [5]) (by kernel_rfl) (by simp) ?_
              refine AllReadyH.cons (by rw [List.getElem?_toArray]; rfl) (fun K hK => ?_) AllReadyH.nil
              clear hHeld
              rw [if_pos (by rfl)]
              refine wp_append_lies _ _ _ 22 rfl B 3 i0 (.int .i64 0) 1 8 Tryd.underlying22 hi hz0 hz1 hz2 rfl (by decide) vV k _ rfl HK.out.rv ⟨vu30.heap.size, 0, none⟩ 1 1 [(.int .i64 (dr m s (k + k + 1)))] rfl rfl hcn.out (by simp [Value.oneCell']) (by decide) (by unfold maxLen; omega) (by omega) HK.out.sz _ rfl ?_
              intro g5 cap5 w5 hown5 hgrow5 hl5 hlt5
              refine hK.out _ _ trivial (fun hHeld => ?_)
              clear hK K hcn hlt5
              refine wpAnyH_take (i := 6) (v := ?vu31) (by rw [List.getElem?_toArray]; rfl) (by kernel_rfl) (by kernel_rfl) (by kernel_rfl) ?qu31 (Or.inl ⟨by rfl, ?yu31⟩) (by assumption) ?ru31
              case qu31 => exact fun _ _ _ h => h
              case yu31 => (intro wz hSw; go_simp; try (with_reducible rfl))
              simp only [Act.put, List.setIfInBounds_toArray, List.set_cons_zero, List.set_cons_succ]
              refine wpAnyH_ready (rs := [7]) (by kernel_rfl) (by simp) ?_
              refine AllReadyH.cons (by rw [List.getElem?_toArray]; rfl) (fun K hK => ?_) AllReadyH.nil
              clear hHeld
              have HN := Lib.hid (HK.out.addV rfl hown5 hgrow5 hl5)
              have q5 := (hgrow5.block gi (lt_hp HK.out.box) (fun e => row_ne HK.out.rv HK.out.box (by decide) e.symm)).trans HK.out.box
              have c5 := cell_of_row _ gi 4 _ 25 _ q5
              have f5 : World.frozen? _ ⟨gi, 4, none⟩ = false := frozen_of_row _ gi 4 _ 25 q5
              simp at c5
              clear hown5 hgrow5 hl5 q5 HK
              go_simp
              refine hK.out _ _ trivial (fun hHeld => ?_)
              clear hK K hHeld c5 f5
              have HK := HN
              clear HN
              refine wpAnyH_done (by kernel_rfl) ?_ _
              have HKe := Lib.hid (ks_round HK.out)
              clear HK
              go_wp2
              go_roundw
              case rel => exact ⟨k + 1, _, _, by omega, by go_num, HKe⟩
              case measure => simp [intOf]; omega
            · clear hHeld
              go_simp
              have hcn := Lib.hid (cell_one_new vu30 (.int .i64 (dr m s (k + k + 1))) 3)
              have HKd := Lib.hid (HK.out.alloc (.cells #[(.int .i64 (dr m s (k + k + 1)))] 3))
              clear HK
              have HK := HKd
              clear HKd
              refine hK.out _ _ trivial (fun hHeld => ?_)
              clear hK K
              refine wpAnyH_ready (rs := [1]) (by kernel_rfl) (by simp) ?_
              refine AllReadyH.cons (by rw [List.getElem?_toArray]; rfl) (fun K hK => ?_) AllReadyH.nil
              have c5 : (vu30.alloc (.cells #[(.int .i64 (dr m s (k + k + 1)))] 3)).cell? ⟨gi, 4, none⟩ = some vV := cell_of_row _ gi 4 _ 25 _ HK.out.box
              clear hHeld
              go_simp
              refine hK.out _ _ trivial (fun hHeld => ?_)
              clear hK K c5
              refine wpAnyH_ready (rs := [5]) (by kernel_rfl) (by simp) ?_
              refine AllReadyH.cons (by rw [List.getElem?_toArray]; rfl) (fun K hK => ?_) AllReadyH.nil
              clear hHeld
              rw [if_pos (by rfl)]
              refine wp_append_lies _ _ _ 22 rfl B 3 i0 (.int .i64 0) 1 8 Tryd.underlying22 hi hz0 hz1 hz2 rfl (by decide) vV k _ rfl HK.out.rv ⟨vu30.heap.size, 0, none⟩ 1 1 [(.int .i64 (dr m s (k + k + 1)))] rfl rfl hcn.out (by simp [Value.oneCell']) (by decide) (by unfold maxLen; omega) (by omega) HK.out.sz _ rfl ?_
              intro g5 cap5 w5 hown5 hgrow5 hl5 hlt5
              refine hK.out _ _ trivial (fun hHeld => ?_)
              clear hK K hcn hlt5
              refine wpAnyH_take (i := 6) (v := ?vu32) (by rw [List.getElem?_toArray]; rfl) (by kernel_rfl) (by kernel_rfl) (by kernel_rfl) ?qu32 (Or.inl ⟨by rfl, ?yu32⟩) (by assumption) ?ru32
              case qu32 => exact fun _ _ _ h => h
              case yu32 => (intro wz hSw; go_simp; try (with_reducible rfl))
              simp only [Act.put, List.setIfInBounds_toArray, List.set_cons_zero, List.set_cons_succ]
              refine wpAnyH_ready (rs := [7]) (by kernel_rfl) (by simp) ?_
              refine AllReadyH.cons (by rw [List.getElem?_toArray]; rfl) (fun K hK => ?_) AllReadyH.nil
              clear hHeld
              have HN := Lib.hid (HK.out.addV rfl hown5 hgrow5 hl5)
              have q5 := (hgrow5.block gi (lt_hp HK.out.box) (fun e => row_ne HK.out.rv HK.out.box (by decide) e.symm)).trans HK.out.box
              have c5 := cell_of_row _ gi 4 _ 25 _ q5
              have f5 : World.frozen? _ ⟨gi, 4, none⟩ = false := frozen_of_row _ gi 4 _ 25 q5
              simp at c5
              clear hown5 hgrow5 hl5 q5 HK
              go_simp
              refine hK.out _ _ trivial (fun hHeld => ?_)
              clear hK K hHeld c5 f5
              have HK := HN
              clear HN
              refine wpAnyH_done (by kernel_rfl) ?_ _
              have HKe := Lib.hid (ks_round HK.out)
              clear HK
              go_wp2
              go_roundw
              case rel => exact ⟨k + 1, _, _, by omega, by go_num, HKe⟩
              case measure => simp [intOf]; omega
    · obtain rfl : k = nn := by omega
      obtain ⟨gw, cw, rfl, hbw, hlw⟩ := HK.out.rw.form (by omega)
      obtain ⟨gv, cv, rfl, hbv, hlv⟩ := HK.out.rv.form (by omega)
      have hgiB : gi < B := HK.out.lo
      have hgrB : gr < B := by omega
      have hgb : w.heap.size ≤ gi := HK.out.base
      have hrb : w.heap.size ≤ gr := by omega
      have pbd := ps_bd m s h0 h1 k
      obtain ⟨cp, hcp⟩ : ∃ c, c = capOf m s k := ⟨_, rfl⟩
      have FIN : Hid (∀ e, e = Ending.returned (.agg #[.int .i64 1, .int .i64 k, .int .i64 cp, .slice (some ⟨gw, 0, none⟩) k cw, .slice (some ⟨gv, 0, none⟩) k cv, .slice none 0 0]) → KPost m s k g w e (((((((wr.setCell ⟨gi, 2, none⟩ (.int .i64 cp)).setCell ⟨gr, 0, none⟩ (.int .i64 1)).setCell ⟨gr, 1, none⟩ (.int .i64 k)).setCell ⟨gr, 2, none⟩ (.int .i64 cp)).setCell ⟨gr, 3, none⟩ (.slice (some ⟨gw, 0, none⟩) k cw)).setCell ⟨gr, 4, none⟩ (.slice (some ⟨gv, 0, none⟩) k cv)).setCell ⟨gr, 5, none⟩ (.slice none 0 0))) := fun e he => by
        refine ⟨gw, cw, gv, cv, by rw [he, hcp], ?_, ?_, gone_set (j := 5) (gone_set (j := 4) (gone_set (j := 3) (gone_set (j := 2) (gone_set (j := 1) (gone_set (j := 0) (gone_set (j := 2) (HK.out.gone) hgb (.int .i64 cp)) hrb (.int .i64 1)) hrb (.int .i64 k)) hrb (.int .i64 cp)) hrb (.slice (some ⟨gw, 0, none⟩) k cw)) hrb (.slice (some ⟨gv, 0, none⟩) k cv)) hrb (.slice none 0 0)⟩
        · exact Go.Joins.ownsRow_le (Go.RowKit.ownsRow_setCell_below (a := ⟨gr, 5, none⟩) (Go.RowKit.ownsRow_setCell_below (a := ⟨gr, 4, none⟩) (Go.RowKit.ownsRow_setCell_below (a := ⟨gr, 3, none⟩) (Go.RowKit.ownsRow_setCell_below (a := ⟨gr, 2, none⟩) (Go.RowKit.ownsRow_setCell_below (a := ⟨gr, 1, none⟩) (Go.RowKit.ownsRow_setCell_below (a := ⟨gr, 0, none⟩) (Go.RowKit.ownsRow_setCell_below (a := ⟨gi, 2, none⟩) (HK.out.rw) hgiB (.int .i64 cp)) hgrB (.int .i64 1)) hgrB (.int .i64 k)) hgrB (.int .i64 cp)) hgrB (.slice (some ⟨gw, 0, none⟩) k cw)) hgrB (.slice (some ⟨gv, 0, none⟩) k cv)) hgrB (.slice none 0 0)) (by omega)
        · exact Go.Joins.ownsRow_le (Go.RowKit.ownsRow_setCell_below (a := ⟨gr, 5, none⟩) (Go.RowKit.ownsRow_setCell_below (a := ⟨gr, 4, none⟩) (Go.RowKit.ownsRow_setCell_below (a := ⟨gr, 3, none⟩) (Go.RowKit.ownsRow_setCell_below (a := ⟨gr, 2, none⟩) (Go.RowKit.ownsRow_setCell_below (a := ⟨gr, 1, none⟩) (Go.RowKit.ownsRow_setCell_below (a := ⟨gr, 0, none⟩) (Go.RowKit.ownsRow_setCell_below (a := ⟨gi, 2, none⟩) (HK.out.rv) hgiB (.int .i64 cp)) hgrB (.int .i64 1)) hgrB (.int .i64 k)) hgrB (.int .i64 cp)) hgrB (.slice (some ⟨gw, 0, none⟩) k cw)) hgrB (.slice (some ⟨gv, 0, none⟩) k cv)) hgrB (.slice none 0 0)) (by omega)
      have q1 : (wr.setCell ⟨gi, 2, none⟩ (.int .i64 cp)).heap[gi]? = some (.cells #[.int .i64 1, .int .i64 k, .int .i64 cp, .slice (some ⟨gw, 0, none⟩) k cw, .slice (some ⟨gv, 0, none⟩) k cv, .slice none 0 0] 25 (0, 0)) := heap_setCell_same wr gi 2 _ 25 (.int .i64 cp) HK.out.box
      have q2 : (wr.setCell ⟨gi, 2, none⟩ (.int .i64 cp)).heap[gr]? = some (.cells #[.int .i64 0, .int .i64 0, .int .i64 0, .slice none 0 0, .slice none 0 0, .slice none 0 0] 25 (0, 0)) := (heap_setCell_other wr ⟨gi, 2, none⟩ gr _ HK.out.ne).trans HK.out.res
      have q3 := six q2 (.int .i64 1) (.int .i64 k) (.int .i64 cp) (.slice (some ⟨gw, 0, none⟩) k cw) (.slice (some ⟨gv, 0, none⟩) k cv) (.slice none 0 0)
      have HC : Hid (∀ j, j < k → wr.cell? ⟨gw, j, none⟩ = some (.int .i64 (dr m s (j + j)))) := fun j hj => by
        rw [HK.out.rw.cellAt j (by omega)]; exact WL_at m s k j hj
      obtain ⟨b0, b1, b2, b3, b4, b5⟩ := box6 HK.out.box
      have bf : ∀ j, wr.frozen? ⟨gi, j, none⟩ = false := fun j => frozen_of_row _ _ _ _ _ HK.out.box
      have HB := Lib.hid (box6 q1)
      have HF2 : Hid (∀ j, (wr.setCell ⟨gi, 2, none⟩ (.int .i64 cp)).frozen? ⟨gr, j, none⟩ = false) := fun j => frozen_of_row _ _ _ _ _ q2
      have HZ := Lib.hid (box6 q2)
      have HR := Lib.hid (box6 q3)
      have HNE := Lib.hid HK.out.ne
      clear q1 q2 q3 hbw hlw hbv hlv HK hd hgr hgi hB hgiB hgrB hgb hrb
      have bf2 := bf 2
      clear bf
      go_wp2
      go_loop [6, 32] (fun q i => ∃ j : Nat, j ≤ k ∧ i = .int .i64 j ∧ q = .int .i64 (ps m s j)) (fun _ i => k - (intOf i).toNat)
      case atStart => exact ⟨0, by omega, rfl, by rw [ps_zero]⟩
      case round =>
        obtain ⟨j, hj, rfl, rfl⟩ := hrel
        have pj := ps_bd m s h0 h1 j
        have dj := dr_bd m s (j + j) h0
        by_cases hjl : j < k
        · have cj := HC.out j hjl
          have HS := Lib.hid (ps_succ m s j)
          go_wp2
          go_round
          case rel => exact ⟨j + 1, by omega, by go_num, by rw [HS.out]⟩
          case measure => simp [intOf]; omega
        · obtain rfl : j = k := by omega
          by_cases hp : ps m s j / 2 ≤ 2147483647
          · obtain rfl : cp = ps m s j / 2 := by rw [hcp]; unfold capOf; rw [if_pos hp]
            clear hcp HC
            obtain ⟨x0, x1, x2, x3, x4, x5⟩ := HB.out
            obtain ⟨y0, y1, y2, y3, y4, y5⟩ := HZ.out
            obtain ⟨r0, r1, r2, r3, r4, r5⟩ := HR.out
            have f0 := HF2.out 0
            have f1 := HF2.out 1
            have f2 := HF2.out 2
            have f3 := HF2.out 3
            have f4 := HF2.out 4
            have f5 := HF2.out 5
            clear HB HZ HR HF2
            go_wp2
            exact bodyPost_ret (v := .agg #[.int .i64 1, .int .i64 j, .int .i64 (ps m s j / 2), .slice (some ⟨gw, 0, none⟩) j cw, .slice (some ⟨gv, 0, none⟩) j cv, .slice none 0 0]) (by simp [results, Tryd.results33, go_sem, r0, r1, r2, r3, r4, r5]) rfl (FIN.out _ rfl)
          · obtain rfl : cp = 2147483647 := by rw [hcp]; unfold capOf; rw [if_neg hp]
            clear hcp HC
            obtain ⟨x0, x1, x2, x3, x4, x5⟩ := HB.out
            obtain ⟨y0, y1, y2, y3, y4, y5⟩ := HZ.out
            obtain ⟨r0, r1, r2, r3, r4, r5⟩ := HR.out
            have f0 := HF2.out 0
            have f1 := HF2.out 1
            have f2 := HF2.out 2
            have f3 := HF2.out 3
            have f4 := HF2.out 4
            have f5 := HF2.out 5
            have hp2 : 2147483647 < ps m s j / 2 := by omega
            clear hp
            clear HB HZ HR HF2
            go_wp2
            exact bodyPost_ret (v := .agg #[.int .i64 1, .int .i64 j, .int .i64 (2147483647), .slice (some ⟨gw, 0, none⟩) j cw, .slice (some ⟨gv, 0, none⟩) j cv, .slice none 0 0]) (by simp [results, Tryd.results33, go_sem, r0, r1, r2, r3, r4, r5]) rfl (FIN.out _ rfl)
end Go.Proofs.YtjlaankgfpjeeaaDoor.gn

/-
  Where drawer.costs stands: rows of numbers in blocks of their own, listed in one of their own.
-/
namespace Go.Proofs.YtjlaankgfpjeeaaDoor.gn
open Go.RowKit
set_option linter.unusedVariables false
/-- how many are drawn in a row ahead of a column; in the rows ahead -/
def ctn (t : Bool) (a b : Nat) : Nat := if t && decide (a < b) then b - 1 else b
def bas (t : Bool) (n a : Nat) : Nat := a * (if t then n - 1 else n)
def ent (t : Bool) (m s : Int) (n a b : Nat) : Int := if t && decide (a = b) then 0 else dr m s (bas t n a + ctn t a b)
theorem ctn_zero (t : Bool) (a : Nat) : ctn t a 0 = 0 := by unfold ctn; simp
theorem ctn_skip (a : Nat) : ctn true a (a + 1) = ctn true a a := by unfold ctn; simp
theorem ctn_next {t : Bool} {a b : Nat} (h : (t && decide (a = b)) = false) : ctn t a (b + 1) = ctn t a b + 1 := by
  unfold ctn
  cases t
  · simp
  · simp at h
    by_cases q : a < b
    · simp [q, show a < b + 1 by omega]; omega
    · simp [q, show ¬ a < b + 1 by omega]
theorem bas_zero (t : Bool) (n : Nat) : bas t n 0 = 0 := by unfold bas; omega
theorem bas_next (t : Bool) (n a : Nat) (h : a < n) : bas t n a + ctn t a n = bas t n (a + 1) := by
  unfold bas ctn
  cases t
  · simp [Nat.succ_mul]
  · simp [h, Nat.succ_mul]
theorem ent_diag (m s : Int) (n a : Nat) : ent true m s n a a = 0 := by unfold ent; simp
theorem ent_draw {t : Bool} (m s : Int) (n : Nat) {a b : Nat} (h : (t && decide (a = b)) = false) : ent t m s n a b = dr m s (bas t n a + ctn t a b) := by unfold ent; rw [h]; rfl
attribute [irreducible] ctn bas ent
/-- a row of which b numbers are told -/
def rl (t : Bool) (m s : Int) (n a b : Nat) : List Value := (List.range n).map fun j => .int .i64 (if j < b then ent t m s n a j else 0)
def tl (gs : Nat → Nat) (n a : Nat) : List Value := (List.range n).map fun j => if j < a then .slice (some ⟨gs j, 0, none⟩) n n else .slice none 0 0
theorem rl_set (t : Bool) (m s : Int) (n a b : Nat) : (rl t m s n a b).set b (.int .i64 (ent t m s n a b)) = rl t m s n a (b + 1) := by
  apply List.ext_getElem
  · simp [rl]
  · intro j h1 h2
    rw [List.getElem_set]
    by_cases e : b = j
    · subst e; simp [rl]
    · have : j < b ↔ j < b + 1 := by omega
      simp [rl, e, this]
theorem rl_zero (t : Bool) (m s : Int) (n a b : Nat) (h : ent t m s n a b = 0) : rl t m s n a b = rl t m s n a (b + 1) := by
  unfold rl
  apply List.map_congr_left
  intro j _
  by_cases e : j = b
  · subst e; simp [h]
  · have : j < b ↔ j < b + 1 := by omega
    simp [this]
theorem tl_set (gs : Nat → Nat) (n a g : Nat) : (tl gs n a).set a (.slice (some ⟨g, 0, none⟩) n n) = tl (fun j => if j = a then g else gs j) n (a + 1) := by
  apply List.ext_getElem
  · simp [tl]
  · intro j h1 h2
    rw [List.getElem_set]
    by_cases e : a = j
    · subst e; simp [tl]
    · have : j < a ↔ j < a + 1 := by omega
      simp [tl, e, this, show ¬ j = a by omega]
theorem tl_at (gs : Nat → Nat) (n a j : Nat) (hj : j < n) : (tl gs n a)[j]? = some (if j < a then .slice (some ⟨gs j, 0, none⟩) n n else .slice none 0 0) := by unfold tl; simp [hj]
theorem rl_at (t : Bool) (m s : Int) (n a b j : Nat) (hj : j < n) : (rl t m s n a b)[j]? = some (.int .i64 (if j < b then ent t m s n a j else 0)) := by unfold rl; simp [hj]
attribute [irreducible] rl tl
theorem row_kindE {w : World} {B n size : Nat} {e : TypeId} {v : Value} {xs : List Value} (h : w.ownsRow B e size v n xs) {x : Nat} (hx : v.ownBlock = some x) : ∃ cur, w.heap[x]? = some (.cells cur e (0, 0)) := by
  rcases h.2 with ⟨rfl, _⟩ | ⟨g, cap, cur, rfl, _, hg, _⟩
  · cases hx
  · injection hx with hx
    subst hx
    exact ⟨cur, hg⟩
theorem row_neE {w : World} {B n b size : Nat} {e : TypeId} {v : Value} {xs : List Value} {cs : Array Value} {t : TypeId} (h : w.ownsRow B e size v n xs) (hb : w.heap[b]? = some (.cells cs t (0, 0))) (ht : t ≠ e) : v.ownBlock ≠ some b := fun q => by
  obtain ⟨cur, hc⟩ := row_kindE h q
  exact blk_ne hb hc ht rfl
structure CS (t : Bool) (m s : Int) (n g gc B : Nat) (w : World) (a b : Nat) (k : Nat) (gs : Nat → Nat) (wr : World) : Prop where
  top : wr.ownsRow B 22 1 (.slice (some ⟨gc, 0, none⟩) n n) n (tl gs n (a + 1))
  rows : ∀ j, j < a → wr.ownsRow B 3 1 (.slice (some ⟨gs j, 0, none⟩) n n) n (rl t m s n j n) ∧ gs j ≠ gs a
  cur : wr.ownsRow B 3 1 (.slice (some ⟨gs a, 0, none⟩) n n) n (rl t m s n a b)
  d : wr.heap[g]? = some (.cells #[.int .u64 (sd s k), .int .i64 m] 70 (0, 0))
  gone : w.grownBy wr (some g)
  sz : w.heap.size ≤ B
theorem gone_trans {w wr w1 : World} {g : Nat} (h : w.grownBy wr (some g)) (hg : wr.grownBy w1 (some g)) : w.grownBy w1 (some g) :=
  ⟨hg.os.trans h.os, hg.tape.trans h.tape, hg.output.trans h.output, Nat.le_trans h.size hg.size, fun i hi hne => (hg.block i (Nat.lt_of_lt_of_le hi h.size) hne).trans (h.block i hi hne)⟩
theorem CS.call {t : Bool} {m s : Int} {n g gc B : Nat} {w : World} {a b k : Nat} {gs : Nat → Nat} {wr w1 : World} (h : CS t m s n g gc B w a b k gs wr) (hg : wr.grownBy w1 (some g)) (hd : w1.heap[g]? = some (.cells #[.int .u64 (sd s (k + 1)), .int .i64 m] 70 (0, 0))) : CS t m s n g gc B w a b (k + 1) gs w1 :=
  ⟨h.top.kept hg (.inr (row_neE h.top h.d (by decide))), fun j hj => ⟨(h.rows j hj).1.kept hg (.inr (row_neE (h.rows j hj).1 h.d (by decide))), (h.rows j hj).2⟩, h.cur.kept hg (.inr (row_neE h.cur h.d (by decide))), hd, gone_trans h.gone hg, h.sz⟩
theorem CS.drew {t : Bool} {m s : Int} {n g gc B : Nat} {w : World} {a b k : Nat} {gs : Nat → Nat} {wr : World} (h : CS t m s n g gc B w a b k gs wr) : CS t m s n g gc B w a b k gs wr.drew :=
  ⟨h.top, h.rows, h.cur, h.d, ⟨h.gone.os, h.gone.tape, h.gone.output, h.gone.size, h.gone.block⟩, h.sz⟩
theorem CS.store {t : Bool} {m s : Int} {n g gc B : Nat} {w : World} {a b k : Nat} {gs : Nat → Nat} {wr : World} (h : CS t m s n g gc B w a b k gs wr) {x : Int} (hx : x = ent t m s n a b) : CS t m s n g gc B w a (b + 1) k gs (wr.setCell ⟨gs a, b, none⟩ (.int .i64 x)) := by
  obtain ⟨cur, hc⟩ := row_kindE h.cur rfl
  have hlt := (h.cur.lt (gs a) rfl).1
  refine ⟨ownsRow_setCell_other h.top (fun e => ?_) _, fun j hj => ⟨ownsRow_setCell_other (h.rows j hj).1 (fun e => (h.rows j hj).2 (by injection e)) _, (h.rows j hj).2⟩, ?_, ?_, gone_set h.gone (Nat.le_trans h.sz hlt) _, h.sz⟩
  · exact row_neE h.top hc (by decide) e
  · subst hx
    rw [← rl_set]
    exact (h.cur.stored b _).1
  · exact (heap_setCell_other wr ⟨gs a, b, none⟩ g _ (blk_ne h.d hc (by decide))).trans h.d
theorem CS.skip {t : Bool} {m s : Int} {n g gc B : Nat} {w : World} {a b k : Nat} {gs : Nat → Nat} {wr : World} (h : CS t m s n g gc B w a b k gs wr) (hx : ent t m s n a b = 0) : CS t m s n g gc B w a (b + 1) k gs wr :=
  ⟨h.top, h.rows, by have := h.cur; rwa [rl_zero t m s n a b hx] at this, h.d, h.gone, h.sz⟩
/-- between two rows -/
structure CR (t : Bool) (m s : Int) (n g gc B : Nat) (w : World) (a : Nat) (gs : Nat → Nat) (wr : World) : Prop where
  top : wr.ownsRow B 22 1 (.slice (some ⟨gc, 0, none⟩) n n) n (tl gs n a)
  rows : ∀ j, j < a → wr.ownsRow B 3 1 (.slice (some ⟨gs j, 0, none⟩) n n) n (rl t m s n j n)
  d : wr.heap[g]? = some (.cells #[.int .u64 (sd s (bas t n a)), .int .i64 m] 70 (0, 0))
  gone : w.grownBy wr (some g)
  sz : w.heap.size ≤ B
  bs : B ≤ wr.heap.size
theorem CR.begin {t : Bool} {m s : Int} {n g gc B : Nat} {w : World} {a : Nat} {gs : Nat → Nat} {wr w1 : World} (h : CR t m s n g gc B w a gs wr) (hr : w1.ownsRow B 3 1 (.slice (some ⟨wr.heap.size, 0, none⟩) n n) n (rl t m s n a 0)) (hg : wr.grownBy w1 none) :
    CS t m s n g gc B w a 0 (bas t n a) (fun j => if j = a then wr.heap.size else gs j) (w1.setCell ⟨gc, a, none⟩ (.slice (some ⟨wr.heap.size, 0, none⟩) n n)) := by
  have e0 : (fun j => if j = a then wr.heap.size else gs j) a = wr.heap.size := by simp
  obtain ⟨ct, hct⟩ := row_kindE h.top rfl
  have hgc := (h.top.lt gc rfl)
  have hct1 : w1.heap[gc]? = some (.cells ct 22 (0, 0)) := (hg.block gc hgc.2 (by simp)).trans hct
  have kp : ∀ {v : Value} {k : Nat} {xs : List Value}, wr.ownsRow B 3 1 v k xs → (w1.setCell ⟨gc, a, none⟩ (.slice (some ⟨wr.heap.size, 0, none⟩) n n)).ownsRow B 3 1 v k xs := fun hv =>
    ownsRow_setCell_other (hv.kept hg (by cases e : Value.ownBlock _ with | none => exact .inl rfl | some y => exact .inr (by simp))) (row_neE (hv.kept hg (by cases e : Value.ownBlock _ with | none => exact .inl rfl | some y => exact .inr (by simp))) hct1 (by decide)) _
  refine ⟨?_, fun j hj => ⟨?_, ?_⟩, ?_, ?_, gone_set ⟨hg.os.trans h.gone.os, hg.tape.trans h.gone.tape, hg.output.trans h.gone.output, Nat.le_trans h.gone.size hg.size, fun i hi hne => (hg.block i (Nat.lt_of_lt_of_le hi h.gone.size) (by simp)).trans (h.gone.block i hi hne)⟩ (Nat.le_trans h.sz hgc.1) _, h.sz⟩
  · rw [← tl_set]
    exact ((h.top.kept hg (.inr (by simp [Value.ownBlock]))).stored a _).1
  · have hj2 : ¬ j = a := by omega
    simp only [hj2, if_false]
    exact kp (h.rows j hj)
  · have hj2 : ¬ j = a := by omega
    have := ((h.rows j hj).lt (gs j) rfl).2
    simp [hj2]; omega
  · simp only [if_true]
    exact ownsRow_setCell_other hr (row_neE hr hct1 (by decide)) _
  · exact (heap_setCell_other w1 ⟨gc, a, none⟩ g _ (by have := blk_ne h.d hct (by decide); exact this)).trans ((hg.block g (lt_hp h.d) (by simp)).trans h.d)
theorem CS.done {t : Bool} {m s : Int} {n g gc B : Nat} {w : World} {a : Nat} {gs : Nat → Nat} {wr : World} (h : CS t m s n g gc B w a n (bas t n (a + 1)) gs wr) (hB : B ≤ wr.heap.size) : CR t m s n g gc B w (a + 1) gs wr := by
  refine ⟨h.top, fun j hj => ?_, h.d, h.gone, h.sz, hB⟩
  by_cases e : j = a
  · subst e; exact h.cur
  · exact (h.rows j (by omega)).1
end Go.Proofs.YtjlaankgfpjeeaaDoor.gn

/-
  What drawer.costs answers.
-/
namespace Go.Proofs.YtjlaankgfpjeeaaDoor.gn
open Go.RowKit
set_option linter.unusedVariables false
theorem info29 : (Tryd.prog.info? 22).map (fun i => (i.zero, i.size, i.bytes)) = some (some (.slice none 0 0), 1, 24) := by kernel_rfl
theorem tl_nil (gs : Nat → Nat) (n : Nat) : tl gs n 0 = List.replicate n (.slice none 0 0) := by unfold tl; apply List.ext_getElem <;> simp
theorem rl_nil (t : Bool) (m s : Int) (n a : Nat) : rl t m s n a 0 = List.replicate n (.int .i64 0) := by unfold rl; apply List.ext_getElem <;> simp
theorem toList_one (z : Value) (n : Nat) : List.replicate n z = (madeCells #[z] n).toList := (toList_madeCells_one z n).symm
def CPost (t : Bool) (m s : Int) (n g : Nat) (w : World) (e : Ending) (w' : World) : Prop := ∃ (gc : Nat) (gs : Nat → Nat), e = .returned (.slice (some ⟨gc, 0, none⟩) n n) ∧ w'.ownsRow w.heap.size 22 1 (.slice (some ⟨gc, 0, none⟩) n n) n (tl gs n n) ∧
  (∀ j, j < n → w'.ownsRow w.heap.size 3 1 (.slice (some ⟨gs j, 0, none⟩) n n) n (rl t m s n j n)) ∧ w.grownBy w' (some g)
set_option maxRecDepth 100000 in
set_option maxHeartbeats 4000000 in
theorem costs_two (m s : Int) (h0 : 0 ≤ m) (h1 : m ≤ 2147483647) (n : Nat) (n1 : 1 ≤ n) (n2 : n ≤ 24) (g : Nat) (w : World) (hd : w.heap[g]? = some (.cells #[.int .u64 (sd s 0), .int .i64 m] 70 (0, 0))) :
    Calls Tryd.prog 34 #[.pointer (some ⟨g, 0, none⟩), .int .i64 2, .int .i64 n] w (CPost false m s n g w) := by
  obtain ⟨i0, hi, hz0, hz1, hz2⟩ := info_parts info3
  obtain ⟨i29, hi29, hy0, hy1, hy2⟩ := info_parts info29
  go_enter Tryd.func34, Tryd.ntmps34
  go_wp2_with (at_make; refine wpList_make_full _ rfl _ _ 23 rfl w.heap.size 22 i29 (.slice none 0 0) 1 Tryd.underlying23 hi29 hy0 hy1 .i64 .i64 _ _ n rfl rfl rfl rfl (by rw [hy2]; omega) (by unfold maxLen; omega) (Nat.le_refl _) ?_)
  intro w2 hown hgrow
  have K0 : Hid (CR false m s n g w.heap.size w.heap.size w 0 (fun _ => 0) w2) := ⟨by rw [tl_nil, toList_one]; exact hown, fun j hj => by omega, by rw [bas_zero]; exact (hgrow.block g (lt_hp hd) (by simp)).trans hd, ⟨hgrow.os, hgrow.tape, hgrow.output, hgrow.size, fun i hi hne => hgrow.block i hi (by simp)⟩, Nat.le_refl _, hgrow.size⟩
  clear hown hgrow hd
  generalize hgc : w.heap.size = gc at *
  obtain ⟨B, hB⟩ : ∃ B, B = gc := ⟨_, rfl⟩
  have K1 : Hid (CR false m s n g gc B w 0 (fun _ => 0) w2) := by rw [hB]; exact K0
  clear K0
  have hgcB := Lib.hid hgc
  have hBB := Lib.hid hB
  clear hgc hB
  go_wp2
  go_loopw [14] (fun i wr => ∃ (a : Nat) (gs : Nat → Nat), a ≤ n ∧ i = .int .i64 a ∧ Hid (CR false m s n g gc B w a gs wr)) (fun i _ => n - (intOf i).toNat)
  case atStart => exact ⟨0, fun _ => 0, by omega, rfl, K1⟩
  case round =>
    clear K1
    obtain ⟨a, gs0, ha, rfl, HC⟩ := hrel
    by_cases hal : a < n
    · have q1 : (a : Int) < (n : Int) := by omega
      have q2 : (0 : Int) ≤ (a : Int) := by omega
      obtain ⟨w3, hrun, hr3, hg3⟩ := run_make_full (P := Tryd.prog) wr B 22 3 i0 (.int .i64 0) 1 Tryd.underlying22 hi hz0 hz1 .i64 .i64 n (by rw [hz2]; omega) (by unfold maxLen; omega) HC.out.bs
      have hr4 : w3.ownsRow B 3 1 (.slice (some ⟨wr.heap.size, 0, none⟩) n n) n (rl false m s n a 0) := by have := hr3; rw [Nat.mul_one] at this; rw [rl_nil, toList_one]; exact this
      have HK0 := Lib.hid (HC.out.begin hr4 hg3)
      have c3 : w3.cell? ⟨gc, a, none⟩ = some (.slice none 0 0) := by
        have := (HC.out.top.kept hg3 (.inr (by simp [Value.ownBlock]))).cellAt a (by omega)
        rw [this, tl_at _ _ _ _ hal, if_neg (by omega)]
      have f3 : w3.frozen? ⟨gc, a, none⟩ = false := (HC.out.top.kept hg3 (.inr (by simp [Value.ownBlock]))).frozenAt a
      have hgcz : gc < w3.heap.size := by have := (HC.out.top.lt gc rfl).2; have := hg3.size; omega
      clear hr3 hr4 hg3 HC
      generalize wr = wo at *
      obtain ⟨gs, hgs⟩ : ∃ gs : Nat → Nat, gs = fun j => if j = a then wo.heap.size else gs0 j := ⟨_, rfl⟩
      rw [← hgs] at HK0
      have hga : Hid (gs a = wo.heap.size) := by rw [hgs]; show (if a = a then _ else _) = _; simp
      clear hgs
      go_wp2
      generalize wo.heap.size = ga at *
      clear c3 f3 hrun
      go_loopw [27] (fun i wr2 => ∃ b : Nat, b ≤ n ∧ i = .int .i64 b ∧ Hid (CS false m s n g gc B w a b (bas false n a + ctn false a b) gs wr2)) (fun i _ => n - (intOf i).toNat)
      case atStart => exact ⟨0, by omega, rfl, by rw [ctn_zero]; exact HK0⟩
      case round =>
        clear HK0
        obtain ⟨b, hb, rfl, HK⟩ := hrel
        by_cases hbn : b < n
        · have hbl := hbn
          have q1 : (b : Int) < (n : Int) := by omega
          have q2 : (a : Int) < (n : Int) := by omega
          have q3 : (0 : Int) ≤ (a : Int) := by omega
          have q4 : (0 : Int) ≤ (b : Int) := by omega
          have HE := Lib.hid (ent_draw m s n (t := false) (a := a) (b := b) (by rfl))
          have HX := Lib.hid (show bas false n a + ctn false a (b + 1) = bas false n a + ctn false a b + 1 from by rw [ctn_next (by rfl)]; omega)
          go_wp2
          refine wp_region_held_drew (S := fun _ => True) (by kernel_rfl) trivial (fun hHeld => ?_)
          have HKd := Lib.hid HK.out.drew
          clear HK
          have HK := HKd
          clear HKd
          generalize World.drew _ = vu1 at *
          refine wpAnyH_take (i := 0) (v := ?vu2) (by rw [List.getElem?_toArray]; rfl) (by kernel_rfl) (by kernel_rfl) (by kernel_rfl) ?qu2 (Or.inl ⟨by rfl, ?yu2⟩) (by assumption) ?ru2
          case qu2 => exact fun _ _ _ h => h
          case yu2 => (intro wz hSw; go_simp; try (with_reducible rfl))
          simp only [Act.put, List.setIfInBounds_toArray, List.set_cons_zero, List.set_cons_succ]
          refine wpAnyH_take (i := 1) (v := ?vu3) (by rw [List.getElem?_toArray]; rfl) (by kernel_rfl) (by kernel_rfl) (by kernel_rfl) ?qu3 (Or.inl ⟨by rfl, ?yu3⟩) (by assumption) ?ru3
          case qu3 => exact fun _ _ _ h => h
          case yu3 => (intro wz hSw; go_simp; try (with_reducible rfl))
          simp only [Act.put, List.setIfInBounds_toArray, List.set_cons_zero, List.set_cons_succ]
          refine wpAnyH_take (i := 2) (v := ?vu4) (by rw [List.getElem?_toArray]; rfl) (by kernel_rfl) (by kernel_rfl) (by kernel_rfl) ?qu4 (Or.inl ⟨by rfl, ?yu4⟩) (by assumption) ?ru4
          case qu4 => exact fun _ _ _ h => h
          case yu4 => (intro wz hSw; go_simp; try (with_reducible rfl))
          simp only [Act.put, List.setIfInBounds_toArray, List.set_cons_zero, List.set_cons_succ]
          refine wpAnyH_take (i := 4) (v := ?vu5) (by rw [List.getElem?_toArray]; rfl) (by kernel_rfl) (by kernel_rfl) (by kernel_rfl) ?qu5 (Or.inl ⟨by rfl, ?yu5⟩) (by assumption) ?ru5
          case qu5 => exact fun _ _ _ h => h
          case yu5 => (intro wz hSw; go_simp; try (with_reducible rfl))
          simp only [Act.put, List.setIfInBounds_toArray, List.set_cons_zero, List.set_cons_succ]
          refine wpAnyH_take (i := 5) (v := ?vu6) (by rw [List.getElem?_toArray]; rfl) (by kernel_rfl) (by kernel_rfl) (by kernel_rfl) ?qu6 (Or.inl ⟨by rfl, ?yu6⟩) (by assumption) ?ru6
          case qu6 => exact fun _ _ _ h => h
          case yu6 => (intro wz hSw; go_simp; try (with_reducible rfl))
          simp only [Act.put, List.setIfInBounds_toArray, List.set_cons_zero, List.set_cons_succ]
          refine wpAnyH_ready (rs := [3, 6]) (by kernel_rfl) (by simp) ?_
          refine AllReadyH.cons (by rw [List.getElem?_toArray]; rfl) (fun K hK => ?_) (AllReadyH.cons (by rw [List.getElem?_toArray]; rfl) (fun K hK => ?_) AllReadyH.nil)
          · have c5 : vu1.cell? ⟨gc, a, none⟩ = some (.slice (some ⟨ga, 0, none⟩) n n) := by rw [HK.out.top.cellAt a (by omega), tl_at _ _ _ _ hal, if_pos (by omega), hga.out]
            clear hHeld
            go_simp
            refine hK.out _ _ trivial (fun hHeld => ?_)
            clear hK K c5
            refine wpAnyH_ready (rs := [6]) (by kernel_rfl) (by simp) ?_
            refine AllReadyH.cons (by rw [List.getElem?_toArray]; rfl) (fun K hK => ?_) AllReadyH.nil
            clear hHeld
            go_simp
            go_at_call 51; refine (next_any m s h0 h1 (bas false n a + ctn false a b) g _ HK.out.d).mono ?_; rintro e vu7 ⟨rfl, hd1, hg1⟩
            have HKd := Lib.hid (HK.out.call hg1 hd1)
            clear HK hd1 hg1
            have HK := HKd
            clear HKd
            go_wp2_with fail
            refine hK.out _ _ trivial (fun hHeld => ?_)
            clear hK K
            refine wpAnyH_take (i := 7) (v := ?vu9) (by rw [List.getElem?_toArray]; rfl) (by kernel_rfl) (by kernel_rfl) (by kernel_rfl) ?qu9 (Or.inl ⟨by rfl, ?yu9⟩) (by assumption) ?ru9
            case qu9 => exact fun _ _ _ h => h
            case yu9 => (intro wz hSw; go_simp; try (with_reducible rfl))
            simp only [Act.put, List.setIfInBounds_toArray, List.set_cons_zero, List.set_cons_succ]
            refine wpAnyH_ready (rs := [8]) (by kernel_rfl) (by simp) ?_
            refine AllReadyH.cons (by rw [List.getElem?_toArray]; rfl) (fun K hK => ?_) AllReadyH.nil
            clear hHeld
            have HN := Lib.hid (HK.out.store HE.out.symm)
            have c5 : vu7.cell? ⟨ga, b, none⟩ = some (.int .i64 (if b < b then ent false m s n a b else 0)) := by have := HK.out.cur.cellAt b (by omega); rw [hga.out] at this; rw [this]; exact rl_at false m s n a b b hbl
            have f5 : vu7.frozen? ⟨ga, b, none⟩ = false := by have := HK.out.cur.frozenAt b; rw [hga.out] at this; exact this
            rw [hga.out] at HN
            clear HK
            go_simp
            refine hK.out _ _ trivial (fun hHeld => ?_)
            clear hK K hHeld c5 f5
            refine wpAnyH_done (by kernel_rfl) ?_ _
            go_wp2
            go_roundw
            case rel => exact ⟨b + 1, by omega, by go_num, by rw [HX.out]; exact HN⟩
            case measure => simp [intOf]; omega
          · clear hHeld
            go_simp
            go_at_call 51; refine (next_any m s h0 h1 (bas false n a + ctn false a b) g _ HK.out.d).mono ?_; rintro e vu8 ⟨rfl, hd1, hg1⟩
            have HKd := Lib.hid (HK.out.call hg1 hd1)
            clear HK hd1 hg1
            have HK := HKd
            clear HKd
            go_wp2_with fail
            refine hK.out _ _ trivial (fun hHeld => ?_)
            clear hK K
            refine wpAnyH_ready (rs := [3]) (by kernel_rfl) (by simp) ?_
            refine AllReadyH.cons (by rw [List.getElem?_toArray]; rfl) (fun K hK => ?_) AllReadyH.nil
            have c5 : vu8.cell? ⟨gc, a, none⟩ = some (.slice (some ⟨ga, 0, none⟩) n n) := by rw [HK.out.top.cellAt a (by omega), tl_at _ _ _ _ hal, if_pos (by omega), hga.out]
            clear hHeld
            go_simp
            refine hK.out _ _ trivial (fun hHeld => ?_)
            clear hK K c5
            refine wpAnyH_take (i := 7) (v := ?vu10) (by rw [List.getElem?_toArray]; rfl) (by kernel_rfl) (by kernel_rfl) (by kernel_rfl) ?qu10 (Or.inl ⟨by rfl, ?yu10⟩) (by assumption) ?ru10
            case qu10 => exact fun _ _ _ h => h
            case yu10 => (intro wz hSw; go_simp; try (with_reducible rfl))
            simp only [Act.put, List.setIfInBounds_toArray, List.set_cons_zero, List.set_cons_succ]
            refine wpAnyH_ready (rs := [8]) (by kernel_rfl) (by simp) ?_
            refine AllReadyH.cons (by rw [List.getElem?_toArray]; rfl) (fun K hK => ?_) AllReadyH.nil
            clear hHeld
            have HN := Lib.hid (HK.out.store HE.out.symm)
            have c5 : vu8.cell? ⟨ga, b, none⟩ = some (.int .i64 (if b < b then ent false m s n a b else 0)) := by have := HK.out.cur.cellAt b (by omega); rw [hga.out] at this; rw [this]; exact rl_at false m s n a b b hbl
            have f5 : vu8.frozen? ⟨ga, b, none⟩ = false := by have := HK.out.cur.frozenAt b; rw [hga.out] at this; exact this
            rw [hga.out] at HN
            clear HK
            go_simp
            refine hK.out _ _ trivial (fun hHeld => ?_)
            clear hK K hHeld c5 f5
            refine wpAnyH_done (by kernel_rfl) ?_ _
            go_wp2
            go_roundw
            case rel => exact ⟨b + 1, by omega, by go_num, by rw [HX.out]; exact HN⟩
            case measure => simp [intOf]; omega
        · obtain rfl : b = n := by omega
          have HN := Lib.hid (show CR false m s b g gc B w (a + 1) gs _ from CS.done (by have := HK.out; rwa [bas_next false b a (by omega)] at this) (by have := HK.out.top.lt gc rfl; omega))
          clear HK
          go_wp2
          go_roundw
          case rel => exact ⟨a + 1, gs, by omega, by go_num, HN⟩
          case measure => simp [intOf]; omega
    · obtain rfl : a = n := by omega
      go_wp2
      go_ret
      exact ⟨gc, gs0, rfl, by rw [hgcB.out]; have := HC.out.top; rwa [hBB.out] at this, fun j hj => by rw [hgcB.out]; have := HC.out.rows j hj; rwa [hBB.out] at this, HC.out.gone⟩
set_option maxRecDepth 100000 in
set_option maxHeartbeats 4000000 in
theorem costs_three (m s : Int) (h0 : 0 ≤ m) (h1 : m ≤ 2147483647) (n : Nat) (n1 : 1 ≤ n) (n2 : n ≤ 24) (g : Nat) (w : World) (hd : w.heap[g]? = some (.cells #[.int .u64 (sd s 0), .int .i64 m] 70 (0, 0))) :
    Calls Tryd.prog 34 #[.pointer (some ⟨g, 0, none⟩), .int .i64 3, .int .i64 n] w (CPost true m s n g w) := by
  obtain ⟨i0, hi, hz0, hz1, hz2⟩ := info_parts info3
  obtain ⟨i29, hi29, hy0, hy1, hy2⟩ := info_parts info29
  go_enter Tryd.func34, Tryd.ntmps34
  go_wp2_with (at_make; refine wpList_make_full _ rfl _ _ 23 rfl w.heap.size 22 i29 (.slice none 0 0) 1 Tryd.underlying23 hi29 hy0 hy1 .i64 .i64 _ _ n rfl rfl rfl rfl (by rw [hy2]; omega) (by unfold maxLen; omega) (Nat.le_refl _) ?_)
  intro w2 hown hgrow
  have K0 : Hid (CR true m s n g w.heap.size w.heap.size w 0 (fun _ => 0) w2) := ⟨by rw [tl_nil, toList_one]; exact hown, fun j hj => by omega, by rw [bas_zero]; exact (hgrow.block g (lt_hp hd) (by simp)).trans hd, ⟨hgrow.os, hgrow.tape, hgrow.output, hgrow.size, fun i hi hne => hgrow.block i hi (by simp)⟩, Nat.le_refl _, hgrow.size⟩
  clear hown hgrow hd
  generalize hgc : w.heap.size = gc at *
  obtain ⟨B, hB⟩ : ∃ B, B = gc := ⟨_, rfl⟩
  have K1 : Hid (CR true m s n g gc B w 0 (fun _ => 0) w2) := by rw [hB]; exact K0
  clear K0
  have hgcB := Lib.hid hgc
  have hBB := Lib.hid hB
  clear hgc hB
  go_wp2
  go_loopw [14] (fun i wr => ∃ (a : Nat) (gs : Nat → Nat), a ≤ n ∧ i = .int .i64 a ∧ Hid (CR true m s n g gc B w a gs wr)) (fun i _ => n - (intOf i).toNat)
  case atStart => exact ⟨0, fun _ => 0, by omega, rfl, K1⟩
  case round =>
    clear K1
    obtain ⟨a, gs0, ha, rfl, HC⟩ := hrel
    by_cases hal : a < n
    · have q1 : (a : Int) < (n : Int) := by omega
      have q2 : (0 : Int) ≤ (a : Int) := by omega
      obtain ⟨w3, hrun, hr3, hg3⟩ := run_make_full (P := Tryd.prog) wr B 22 3 i0 (.int .i64 0) 1 Tryd.underlying22 hi hz0 hz1 .i64 .i64 n (by rw [hz2]; omega) (by unfold maxLen; omega) HC.out.bs
      have hr4 : w3.ownsRow B 3 1 (.slice (some ⟨wr.heap.size, 0, none⟩) n n) n (rl true m s n a 0) := by have := hr3; rw [Nat.mul_one] at this; rw [rl_nil, toList_one]; exact this
      have HK0 := Lib.hid (HC.out.begin hr4 hg3)
      have c3 : w3.cell? ⟨gc, a, none⟩ = some (.slice none 0 0) := by
        have := (HC.out.top.kept hg3 (.inr (by simp [Value.ownBlock]))).cellAt a (by omega)
        rw [this, tl_at _ _ _ _ hal, if_neg (by omega)]
      have f3 : w3.frozen? ⟨gc, a, none⟩ = false := (HC.out.top.kept hg3 (.inr (by simp [Value.ownBlock]))).frozenAt a
      have hgcz : gc < w3.heap.size := by have := (HC.out.top.lt gc rfl).2; have := hg3.size; omega
      clear hr3 hr4 hg3 HC
      generalize wr = wo at *
      obtain ⟨gs, hgs⟩ : ∃ gs : Nat → Nat, gs = fun j => if j = a then wo.heap.size else gs0 j := ⟨_, rfl⟩
      rw [← hgs] at HK0
      have hga : Hid (gs a = wo.heap.size) := by rw [hgs]; show (if a = a then _ else _) = _; simp
      clear hgs
      go_wp2
      generalize wo.heap.size = ga at *
      clear c3 f3 hrun
      go_loopw [27] (fun i wr2 => ∃ b : Nat, b ≤ n ∧ i = .int .i64 b ∧ Hid (CS true m s n g gc B w a b (bas true n a + ctn true a b) gs wr2)) (fun i _ => n - (intOf i).toNat)
      case atStart => exact ⟨0, by omega, rfl, by rw [ctn_zero]; exact HK0⟩
      case round =>
        clear HK0
        obtain ⟨b, hb, rfl, HK⟩ := hrel
        by_cases hbn : b < n
        · have hbl := hbn
          have q1 : (b : Int) < (n : Int) := by omega
          have q2 : (a : Int) < (n : Int) := by omega
          have q3 : (0 : Int) ≤ (a : Int) := by omega
          have q4 : (0 : Int) ≤ (b : Int) := by omega
          by_cases hab : a = b
          · have HE := Lib.hid (show ent true m s n a b = 0 from by rw [← hab]; exact ent_diag m s n a)
            have HX := Lib.hid (show bas true n a + ctn true a (b + 1) = bas true n a + ctn true a b from by rw [← hab, ctn_skip])
            have q5 : ((a : Int) != (b : Int)) = false := by simp; omega
            have HN := Lib.hid (HK.out.skip HE.out)
            clear HK
            go_wp2
            go_roundw
            case rel => exact ⟨b + 1, by omega, by go_num, by rw [HX.out]; exact HN⟩
            case measure => simp [intOf]; omega
          · have q5 : ((a : Int) != (b : Int)) = true := by simp; omega
            have HE := Lib.hid (ent_draw m s n (t := true) (a := a) (b := b) (by simp [hab]))
            have HX := Lib.hid (show bas true n a + ctn true a (b + 1) = bas true n a + ctn true a b + 1 from by rw [ctn_next (by simp [hab])]; omega)
            go_wp2
            refine wp_region_held_drew (S := fun _ => True) (by kernel_rfl) trivial (fun hHeld => ?_)
            have HKd := Lib.hid HK.out.drew
            clear HK
            have HK := HKd
            clear HKd
            generalize World.drew _ = vu11 at *
            refine wpAnyH_take (i := 0) (v := ?vu12) (by rw [List.getElem?_toArray]; rfl) (by kernel_rfl) (by kernel_rfl) (by kernel_rfl) ?qu12 (Or.inl ⟨by rfl, ?yu12⟩) (by assumption) ?ru12
            case qu12 => exact fun _ _ _ h => h
            case yu12 => (intro wz hSw; go_simp; try (with_reducible rfl))
            simp only [Act.put, List.setIfInBounds_toArray, List.set_cons_zero, List.set_cons_succ]
            refine wpAnyH_take (i := 1) (v := ?vu13) (by rw [List.getElem?_toArray]; rfl) (by kernel_rfl) (by kernel_rfl) (by kernel_rfl) ?qu13 (Or.inl ⟨by rfl, ?yu13⟩) (by assumption) ?ru13
            case qu13 => exact fun _ _ _ h => h
            case yu13 => (intro wz hSw; go_simp; try (with_reducible rfl))
            simp only [Act.put, List.setIfInBounds_toArray, List.set_cons_zero, List.set_cons_succ]
            refine wpAnyH_take (i := 2) (v := ?vu14) (by rw [List.getElem?_toArray]; rfl) (by kernel_rfl) (by kernel_rfl) (by kernel_rfl) ?qu14 (Or.inl ⟨by rfl, ?yu14⟩) (by assumption) ?ru14
            case qu14 => exact fun _ _ _ h => h
            case yu14 => (intro wz hSw; go_simp; try (with_reducible rfl))
            simp only [Act.put, List.setIfInBounds_toArray, List.set_cons_zero, List.set_cons_succ]
            refine wpAnyH_take (i := 4) (v := ?vu15) (by rw [List.getElem?_toArray]; rfl) (by kernel_rfl) (by kernel_rfl) (by kernel_rfl) ?qu15 (Or.inl ⟨by rfl, ?yu15⟩) (by assumption) ?ru15
            case qu15 => exact fun _ _ _ h => h
            case yu15 => (intro wz hSw; go_simp; try (with_reducible rfl))
            simp only [Act.put, List.setIfInBounds_toArray, List.set_cons_zero, List.set_cons_succ]
            refine wpAnyH_take (i := 5) (v := ?vu16) (by rw [List.getElem?_toArray]; rfl) (by kernel_rfl) (by kernel_rfl) (by kernel_rfl) ?qu16 (Or.inl ⟨by rfl, ?yu16⟩) (by assumption) ?ru16
            case qu16 => exact fun _ _ _ h => h
            case yu16 => (intro wz hSw; go_simp; try (with_reducible rfl))
            simp only [Act.put, List.setIfInBounds_toArray, List.set_cons_zero, List.set_cons_succ]
            refine wpAnyH_ready (rs := [3, 6]) (by kernel_rfl) (by simp) ?_
            refine AllReadyH.cons (by rw [List.getElem?_toArray]; rfl) (fun K hK => ?_) (AllReadyH.cons (by rw [List.getElem?_toArray]; rfl) (fun K hK => ?_) AllReadyH.nil)
            · have c5 : vu11.cell? ⟨gc, a, none⟩ = some (.slice (some ⟨ga, 0, none⟩) n n) := by rw [HK.out.top.cellAt a (by omega), tl_at _ _ _ _ hal, if_pos (by omega), hga.out]
              clear hHeld
              go_simp
              refine hK.out _ _ trivial (fun hHeld => ?_)
              clear hK K c5
              refine wpAnyH_ready (rs := [6]) (by kernel_rfl) (by simp) ?_
              refine AllReadyH.cons (by rw [List.getElem?_toArray]; rfl) (fun K hK => ?_) AllReadyH.nil
              clear hHeld
              go_simp
              go_at_call 51; refine (next_any m s h0 h1 (bas true n a + ctn true a b) g _ HK.out.d).mono ?_; rintro e vu17 ⟨rfl, hd1, hg1⟩
              have HKd := Lib.hid (HK.out.call hg1 hd1)
              clear HK hd1 hg1
              have HK := HKd
              clear HKd
              go_wp2_with fail
              refine hK.out _ _ trivial (fun hHeld => ?_)
              clear hK K
              refine wpAnyH_take (i := 7) (v := ?vu19) (by rw [List.getElem?_toArray]; rfl) (by kernel_rfl) (by kernel_rfl) (by kernel_rfl) ?qu19 (Or.inl ⟨by rfl, ?yu19⟩) (by assumption) ?ru19
              case qu19 => exact fun _ _ _ h => h
              case yu19 => (intro wz hSw; go_simp; try (with_reducible rfl))
              simp only [Act.put, List.setIfInBounds_toArray, List.set_cons_zero, List.set_cons_succ]
              refine wpAnyH_ready (rs := [8]) (by kernel_rfl) (by simp) ?_
              refine AllReadyH.cons (by rw [List.getElem?_toArray]; rfl) (fun K hK => ?_) AllReadyH.nil
              clear hHeld
              have HN := Lib.hid (HK.out.store HE.out.symm)
              have c5 : vu17.cell? ⟨ga, b, none⟩ = some (.int .i64 (if b < b then ent true m s n a b else 0)) := by have := HK.out.cur.cellAt b (by omega); rw [hga.out] at this; rw [this]; exact rl_at true m s n a b b hbl
              have f5 : vu17.frozen? ⟨ga, b, none⟩ = false := by have := HK.out.cur.frozenAt b; rw [hga.out] at this; exact this
              rw [hga.out] at HN
              clear HK
              go_simp
              refine hK.out _ _ trivial (fun hHeld => ?_)
              clear hK K hHeld c5 f5
              refine wpAnyH_done (by kernel_rfl) ?_ _
              go_wp2
              go_roundw
              case rel => exact ⟨b + 1, by omega, by go_num, by rw [HX.out]; exact HN⟩
              case measure => simp [intOf]; omega
            · clear hHeld
              go_simp
              go_at_call 51; refine (next_any m s h0 h1 (bas true n a + ctn true a b) g _ HK.out.d).mono ?_; rintro e vu18 ⟨rfl, hd1, hg1⟩
              have HKd := Lib.hid (HK.out.call hg1 hd1)
              clear HK hd1 hg1
              have HK := HKd
              clear HKd
              go_wp2_with fail
              refine hK.out _ _ trivial (fun hHeld => ?_)
              clear hK K
              refine wpAnyH_ready (rs := [3]) (by kernel_rfl) (by simp) ?_
              refine AllReadyH.cons (by rw [List.getElem?_toArray]; rfl) (fun K hK => ?_) AllReadyH.nil
              have c5 : vu18.cell? ⟨gc, a, none⟩ = some (.slice (some ⟨ga, 0, none⟩) n n) := by rw [HK.out.top.cellAt a (by omega), tl_at _ _ _ _ hal, if_pos (by omega), hga.out]
              clear hHeld
              go_simp
              refine hK.out _ _ trivial (fun hHeld => ?_)
              clear hK K c5
              refine wpAnyH_take (i := 7) (v := ?vu20) (by rw [List.getElem?_toArray]; rfl) (by kernel_rfl) (by kernel_rfl) (by kernel_rfl) ?qu20 (Or.inl ⟨by rfl, ?yu20⟩) (by assumption) ?ru20
              case qu20 => exact fun _ _ _ h => h
              case yu20 => (intro wz hSw; go_simp; try (with_reducible rfl))
              simp only [Act.put, List.setIfInBounds_toArray, List.set_cons_zero, List.set_cons_succ]
              refine wpAnyH_ready (rs := [8]) (by kernel_rfl) (by simp) ?_
              refine AllReadyH.cons (by rw [List.getElem?_toArray]; rfl) (fun K hK => ?_) AllReadyH.nil
              clear hHeld
              have HN := Lib.hid (HK.out.store HE.out.symm)
              have c5 : vu18.cell? ⟨ga, b, none⟩ = some (.int .i64 (if b < b then ent true m s n a b else 0)) := by have := HK.out.cur.cellAt b (by omega); rw [hga.out] at this; rw [this]; exact rl_at true m s n a b b hbl
              have f5 : vu18.frozen? ⟨ga, b, none⟩ = false := by have := HK.out.cur.frozenAt b; rw [hga.out] at this; exact this
              rw [hga.out] at HN
              clear HK
              go_simp
              refine hK.out _ _ trivial (fun hHeld => ?_)
              clear hK K hHeld c5 f5
              refine wpAnyH_done (by kernel_rfl) ?_ _
              go_wp2
              go_roundw
              case rel => exact ⟨b + 1, by omega, by go_num, by rw [HX.out]; exact HN⟩
              case measure => simp [intOf]; omega
        · obtain rfl : b = n := by omega
          have HN := Lib.hid (show CR true m s b g gc B w (a + 1) gs _ from CS.done (by have := HK.out; rwa [bas_next true b a (by omega)] at this) (by have := HK.out.top.lt gc rfl; omega))
          clear HK
          go_wp2
          go_roundw
          case rel => exact ⟨a + 1, gs, by omega, by go_num, HN⟩
          case measure => simp [intOf]; omega
    · obtain rfl : a = n := by omega
      go_wp2
      go_ret
      exact ⟨gc, gs0, rfl, by rw [hgcB.out]; have := HC.out.top; rwa [hBB.out] at this, fun j hj => by rw [hgcB.out]; have := HC.out.rows j hj; rwa [hBB.out] at this, HC.out.gone⟩
end Go.Proofs.YtjlaankgfpjeeaaDoor.gn

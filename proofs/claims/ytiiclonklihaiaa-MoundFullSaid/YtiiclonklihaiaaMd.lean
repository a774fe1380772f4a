/-
  A mound in memory: its lists, each in a block of its own; first, takes, leaves.
-/
import Derived.Test.YtiiclonklihaiaaProg
import Derived.Below
import Derived.Lib.Hide
import Derived.LoopTactic
import Derived.OwnWalk
import Derived.Laws.AppendOwn
import Derived.Laws.OwnMore
import Derived.Deep.AppendLies
import Derived.Maps.AppendAt
import Derived.Lib.SmallJoins
import Derived.BigRegion
import Derived.Deep.RegionHeld3
namespace Go.Proofs.Ytiiclonklihaiaa
open Go.RowKit
set_option linter.unusedVariables false
theorem lt_blk {w : World} {b : Nat} {o : Obj} (h : w.heap[b]? = some o) : b < w.heap.size := by
  rcases Nat.lt_or_ge b w.heap.size with q | q
  · exact q
  · rw [Array.getElem?_eq_none q] at h; cases h
theorem bl_al {a w : World} (h : Below a.heap.size a w) (o : Obj) : Below a.heap.size a (w.alloc o) := h.alloc h.size o
theorem bl_tr {a w w1 : World} (h : Below a.heap.size a w) (k : Below w.heap.size w w1) : Below a.heap.size a w1 := h.trans (k.mono h.size)
theorem own_slice {w : World} {B n size : Nat} {e : TypeId} {v : Value} {xs : List Value} (h : w.ownsRow B e size v n xs) : ∃ a c, v = .slice a n c := by
  rcases h.2 with ⟨rfl, rfl⟩ | ⟨g, cap, cur, rfl, _⟩
  · exact ⟨none, 0, rfl⟩
  · exact ⟨_, cap, rfl⟩
theorem ownsRow_up {B : Nat} {e : TypeId} {k : Nat} {v : Value} {n : Nat} {xs : List Value} {w w' : World} (h : w.ownsRow B e k v n xs) (hb : Below w.heap.size w w') : w'.ownsRow B e k v n xs := by
  refine ⟨h.1, ?_⟩
  rcases h.2 with hn | ⟨g, cap, cur, hv, hg, hh, r⟩
  · exact Or.inl hn
  · exact Or.inr ⟨g, cap, cur, hv, hg, (hb.block _ (lt_blk hh)).trans hh, r⟩
def encI (l : List (Int × Int)) : List Value := l.flatMap fun x => [.int .i64 x.1, .int .i64 x.2]
theorem encI_app (l : List (Int × Int)) (x : Int × Int) : encI (l ++ [x]) = encI l ++ [.int .i64 x.1, .int .i64 x.2] := by simp [encI]
theorem encI_len : ∀ l : List (Int × Int), (encI l).length = l.length * 2
  | [] => rfl
  | a :: l => by have := encI_len l; simp [encI] at this ⊢; omega
theorem encI_last (l : List (Int × Int)) (x : Int × Int) : (encI (l ++ [x]))[l.length * 2]? = some (.int .i64 x.1) ∧ (encI (l ++ [x]))[l.length * 2 + 1]? = some (.int .i64 x.2) := by
  rw [encI_app]
  have h := encI_len l
  constructor
  · rw [List.getElem?_append_right (by omega), h, Nat.sub_self]; rfl
  · rw [List.getElem?_append_right (by omega), h, show l.length * 2 + 1 - l.length * 2 = 1 by omega]; rfl
/-- a mound: its box b, the lists' block g, the lists -/
structure MD (B b g L : Nat) (vs : Nat → Value) (ls : Nat → List (Int × Int)) (w : World) : Prop where
  box : w.heap[b]? = some (.cells #[.slice (some ⟨g, 0, none⟩) L L] 56 (0, 0))
  top : ∃ cur : Array Value, w.heap[g]? = some (.cells cur 50 (0, 0)) ∧ ∀ p, p < L → cur[p]? = some (vs p)
  rows : ∀ p, p < L → w.ownsRow B 24 2 (vs p) (ls p).length (encI (ls p))
  ap : ∀ p q x, p < L → q < L → p ≠ q → (vs p).ownBlock = some x → (vs q).ownBlock ≠ some x
  len : ∀ p, p < L → (ls p).length ≤ 1000
theorem MD.up {B b g L : Nat} {vs : Nat → Value} {ls : Nat → List (Int × Int)} {w w' : World} (h : MD B b g L vs ls w) (hb : Below w.heap.size w w') : MD B b g L vs ls w' := by
  obtain ⟨cur, hg, hc⟩ := h.top
  exact ⟨(hb.block _ (lt_blk h.box)).trans h.box, ⟨cur, (hb.block _ (lt_blk hg)).trans hg, hc⟩, fun p hp => ownsRow_up (h.rows p hp) hb, h.ap, h.len⟩
theorem MD.cells {B b g L : Nat} {vs : Nat → Value} {ls : Nat → List (Int × Int)} {w : World} (h : MD B b g L vs ls w) : w.cell? ⟨b, 0, none⟩ = some (.slice (some ⟨g, 0, none⟩) L L) ∧ ∀ p, p < L → w.cell? ⟨g, p, none⟩ = some (vs p) := by
  obtain ⟨cur, hg, hc⟩ := h.top
  exact ⟨cell_of_row _ _ 0 _ _ _ h.box, fun p hp => by rw [cell_of_row _ _ _ _ _ _ hg]; exact hc p hp⟩
theorem ia_run (g n cap : Nat) (h1 : 0 < n) : ∀ W : World, (Instr.indexAt 50 (.slice (some ⟨g, 0, none⟩) n cap) (.int .i64 ((n : Int) - 1))).run Try.prog W = .ok (.pointer (some ⟨g, (n - 1) * 2, none⟩)) W := fun W => by
  have h3 : (1 : Int) ≤ n := by omega
  go_simp
  intro h; omega
/-- the first item -/
def frst (l : List (Int × Int)) : Option (Int × Int) := l.getLast?
def item0 : Obj := .cells #[.int .i64 0, .int .i64 0] 24 (0, 0)
set_option maxHeartbeats 2000000 in
theorem first_any (B b g L : Nat) (vs : Nat → Value) (ls : Nat → List (Int × Int)) (p : Nat) (hp : p < L) (x : Int × Int) (ok : Bool) (hx : (frst (ls p) = none ∧ x = (0, 0) ∧ ok = false) ∨ (frst (ls p) = some x ∧ ok = true)) (w : World) (h : MD B b g L vs ls w) :
    Calls Try.prog 21 #[.pointer (some ⟨b, 0, none⟩), .int .i64 p] w fun e w' => e = .returned (.tuple #[.agg #[.int .i64 x.1, .int .i64 x.2], .bool ok]) ∧ Below w.heap.size w w' := by
  have h0 := h.up (bl_al (Below.refl _ _) item0)
  obtain ⟨c0, ct⟩ := h0.cells
  have c1 := ct p hp
  have hr := h0.rows p hp
  have q1 : (p : Int) < (L : Int) := by omega
  have q2 : (0 : Int) ≤ (p : Int) := by omega
  have B0 : Hid (Below w.heap.size w (w.alloc item0)) := bl_al (Below.refl _ _) _
  have hz := heap_alloc_new w item0
  unfold item0 at B0 hz c0 c1 hr
  clear h0 ct
  rcases hx with ⟨hx, rfl, rfl⟩ | ⟨hx, rfl⟩
  · have hn : ls p = [] := by unfold frst at hx; simpa using hx
    rw [hn] at hr
    obtain ⟨a, c, e⟩ := own_slice hr
    rw [e] at c1
    simp only [List.length_nil] at c1
    clear h hr e hn hx hp
    go_enter Try.func21, Try.ntmps21
    go_wp2
    exact bodyPost_ret (v := .tuple #[.agg #[.int .i64 0, .int .i64 0], .bool false]) (by simp [results, Try.results21, go_sem]) rfl ⟨rfl, B0.out⟩
  · obtain ⟨l0, hl⟩ : ∃ l0, ls p = l0 ++ [x] := by
      unfold frst at hx
      exact List.getLast?_eq_some_iff.1 hx
    rw [hl] at hr
    obtain ⟨g', cap, e, hg1, hg2⟩ := hr.form (by simp)
    rw [e] at c1 hr
    obtain ⟨n1, hn1⟩ : ∃ n1, n1 = (l0 ++ [x]).length := ⟨_, rfl⟩
    have hn2 : n1 - 1 = l0.length := by rw [hn1]; simp
    have hpos : 1 ≤ n1 := by rw [hn1]; simp
    have k0 : (w.alloc (.cells #[.int .i64 0, .int .i64 0] 24)).cell? ⟨g', (n1 - 1) * 2, none⟩ = some (.int .i64 x.1) := by rw [hn2, hr.cellAt _ (by simp <;> omega)]; exact (encI_last l0 x).1
    have k1 : (w.alloc (.cells #[.int .i64 0, .int .i64 0] 24)).cell? ⟨g', (n1 - 1) * 2 + 1, none⟩ = some (.int .i64 x.2) := by rw [hn2, hr.cellAt _ (by rw [List.length_append]; simp; omega)]; exact (encI_last l0 x).2
    rw [← hn1] at c1
    have d0 : ((n1 : Int) == 0) = false := by simp; omega
    have d1 : IntKind.i64.wrap ((n1 : Int) - 1) = (n1 : Int) - 1 := IntWalk.i64_in _ (by have := h.len p hp; rw [hl, ← hn1] at this; omega)
    have d2 : (0 : Int) ≤ (n1 : Int) - 1 := by omega
    have d3 : (n1 : Int) - 1 < (n1 : Int) := by omega
    have d4 : ((n1 : Int) - 1).toNat = n1 - 1 := by omega
    have ia := ia_run g' n1 cap hpos
    have f0 : World.frozen? _ ⟨w.heap.size, 0, none⟩ = false := frozen_of_row _ _ _ _ _ hz
    have R6 : Hid (∀ W : World, True) := fun _ => trivial
    clear h hr e hn1 hn2 hx hp hl hg1 hg2 hpos
    go_enter Try.func21, Try.ntmps21
    go_wp2
    exact bodyPost_ret (v := .tuple #[.agg #[.int .i64 x.1, .int .i64 x.2], .bool true]) (by simp [results, Try.results21, go_sem]) rfl ⟨rfl, bl_al (Below.refl _ _) _⟩
end Go.Proofs.Ytiiclonklihaiaa

/-
  Words for lists of numbers in blocks of their own.
-/
import Derived.Test.YtaihmkflhapjeaaProg
import Derived.WalkKit
import Derived.ProofKit
import Derived.OpenShut
import Derived.Below
import Derived.Lib.Hide
import Derived.LoopTactic
import Derived.IntWalk
import Derived.OwnWalk
import Derived.Laws.AppendOwn
import Derived.Laws.OwnMore
import Derived.Deep.AppendLies
import Derived.Maps.AppendAt
import Derived.Deep.QuietTactic
import Derived.BigQuiet
import Derived.Deep.RegionWith
import Derived.Deep.RegionHeld3
import Derived.BigRegion
import Derived.Lib.SliceRun
namespace Go.Proofs.Ytaihmkflhapjeaa
open Go.RowKit
set_option linter.unusedVariables false


theorem bl_al {a w : World} (h : Below a.heap.size a w) (o : Obj) : Below a.heap.size a (w.alloc o) := h.alloc h.size o
theorem bl_tr {a w w1 : World} (h : Below a.heap.size a w) (k : Below w.heap.size w w1) : Below a.heap.size a w1 := h.trans (k.mono h.size)
theorem bl_dn {B : Nat} {a w : World} (h : Below B a w) (n : Nat) : Below B a (w.drewN n) := ⟨h.os, h.tape, h.output, h.size, h.block⟩
theorem bl_drew (X : World) : Below X.heap.size X X.drew := ⟨rfl, rfl, rfl, Nat.le_refl _, fun _ _ => rfl⟩
theorem bl_undr {X w : World} (h : Below X.drew.heap.size X.drew w) : Below X.heap.size X w := ⟨h.os, h.tape, h.output, h.size, h.block⟩
theorem lt_hp {w : World} {k : Nat} {o : Obj} (h : w.heap[k]? = some o) : k < w.heap.size := by
  rcases Nat.lt_or_ge k w.heap.size with hlt | hge
  · exact hlt
  · rw [Array.getElem?_eq_none hge] at h; cases h
/-- a number of a list -/
def nth (l : List Int) (j : Nat) : Int := l[j]?.getD 0
theorem nth_at (l : List Int) (j : Nat) (h : j < l.length) : nth l j = l[j] := by unfold nth; rw [List.getElem?_eq_getElem h]; rfl
theorem nth_set (l : List Int) (i j : Nat) (v : Int) (hi : i < l.length) : nth (l.set i v) j = if i = j then v else nth l j := by
  unfold nth
  rw [List.getElem?_set]
  by_cases h : i = j
  · subst h; simp [hi]
  · simp [h]
theorem nth_ext (l m : List Int) (h : l.length = m.length) (he : ∀ j, j < l.length → nth l j = nth m j) : l = m := by
  apply List.ext_getElem h
  intro j h1 h2
  have := he j h1
  rwa [nth_at l j h1, nth_at m j h2] at this
attribute [irreducible] nth
/-- a list in a block of its own, all of it -/
def Own (B g n cap : Nat) (l : List Int) (w0 wr : World) : Prop := l.length = n ∧ B ≤ g ∧ wr.ownsRow B 3 1 (.slice (some ⟨g, 0, none⟩) n cap) n (l.map (Value.int .i64)) ∧ Below B w0 wr
theorem Own.cell {B g n cap : Nat} {l : List Int} {w0 wr : World} (h : Own B g n cap l w0 wr) (j : Nat) (hj : j < n) : wr.cell? ⟨g, j, none⟩ = some (.int .i64 (nth l j)) := by
  obtain ⟨h1, h2, h3, h4⟩ := h
  rw [h3.cellAt j (by omega), List.getElem?_map, List.getElem?_eq_getElem (by omega), nth_at l j (by omega)]
  rfl
theorem Own.frozen {B g n cap : Nat} {l : List Int} {w0 wr : World} (h : Own B g n cap l w0 wr) (j : Nat) : wr.frozen? ⟨g, j, none⟩ = false := h.2.2.1.frozenAt j
theorem Own.set {B g n cap : Nat} {l : List Int} {w0 wr : World} (h : Own B g n cap l w0 wr) (j : Nat) (v : Int) : Own B g n cap (l.set j v) w0 (wr.setCell ⟨g, j, none⟩ (.int .i64 v)) := by
  obtain ⟨h1, h2, h3, h4⟩ := h
  refine ⟨by simpa using h1, h2, ?_, h4.setCell (p := ⟨g, j, none⟩) h2 _⟩
  rw [List.map_set]
  exact (h3.stored j _).1
theorem Own.blk {B g n cap : Nat} {l : List Int} {w0 wr : World} (h : Own B g n cap l w0 wr) : ∃ cur, wr.heap[g]? = some (.cells cur 3 (0, 0)) := by
  rcases h.2.2.1.2 with ⟨h', _⟩ | ⟨g', cap', cur, h', _, hg, _⟩
  · cases h'
  · injection h' with h' _ _
    injection h' with h'
    injection h' with h'
    subst h'
    exact ⟨cur, hg⟩
theorem Own.keep {B g n cap : Nat} {l : List Int} {w0 wr w1 : World} (h : Own B g n cap l w0 wr) (hb : Below wr.heap.size wr w1) : Own B g n cap l w0 w1 := by
  obtain ⟨cur, hg⟩ := h.blk
  have hl := lt_hp hg
  obtain ⟨h1, h2, h3, h4⟩ := h
  refine ⟨h1, h2, ?_, h4.trans (hb.mono (by omega))⟩
  obtain ⟨a1, a2⟩ := h3
  refine ⟨a1, ?_⟩
  rcases a2 with hn | ⟨g', cap', cur', hv, hg', hh, r⟩
  · exact Or.inl hn
  · exact Or.inr ⟨g', cap', cur', hv, hg', (hb.block g' (lt_hp hh)).trans hh, r⟩
theorem info3 : (Try.prog.info? 3).map (fun i => (i.zero, i.size, i.bytes)) = some (some (.int .i64 0), 1, 8) := by kernel_rfl
/-- a list of numbers in memory -/
def Ints (W : World) (a : Option Addr) (l : List Int) : Prop := ∀ j, j < l.length → ∃ b o, a = some ⟨b, o, none⟩ ∧ b < W.heap.size ∧ W.cell? ⟨b, o + j, none⟩ = some (.int .i64 (nth l j))
theorem Ints.keep {W W1 : World} {a : Option Addr} {l : List Int} (h : Ints W a l) (hb : Below W.heap.size W W1) : Ints W1 a l := fun j hj => by
  obtain ⟨b, o, h1, h2, h3⟩ := h j hj
  exact ⟨b, o, h1, Nat.lt_of_lt_of_le h2 hb.size, (hb.cell (p := ⟨b, o + j, none⟩) h2).trans h3⟩
theorem Own.ints {B g n cap : Nat} {l : List Int} {w0 wr : World} (h : Own B g n cap l w0 wr) : Ints wr (some ⟨g, 0, none⟩) l := fun j hj => by
  obtain ⟨cur, hg⟩ := h.blk
  exact ⟨g, 0, rfl, lt_hp hg, by rw [Nat.zero_add]; exact h.cell j (by rw [h.1] at hj; exact hj)⟩
theorem Own.cap {B g n cap : Nat} {l : List Int} {w0 wr : World} (h : Own B g n cap l w0 wr) : n ≤ cap ∧ cap ≤ 9223372036854775807 := by
  rcases h.2.2.1.2 with ⟨h', _⟩ | ⟨g', cap', cur, h', _, hg, h1, h2, _⟩
  · cases h'
  · injection h' with _ _ h'
    subst h'
    exact ⟨h1, by unfold maxLen at h2; exact h2⟩
theorem own_form {w : World} {base : Nat} {e : TypeId} {v : Value} {n : Nat} {xs : List Value} (h : w.ownsRow base e 1 v n xs) (hne : ¬ v = .slice none 0 0) : ∃ g cap, v = .slice (some ⟨g, 0, none⟩) n cap := by
  rcases h.2 with ⟨h', _⟩ | ⟨g, cap, cur, hv, _⟩
  · exact absurd h' hne
  · exact ⟨g, cap, hv⟩
theorem own0 (w : World) : (w.alloc (.cells #[] 3)).ownsRow w.heap.size 3 1 (.slice (some ⟨w.heap.size, 0, none⟩) 0 0) 0 [] := World.ownsRow_lit w #[] 0 (Nat.le_refl _) (by decide) (by decide)
theorem app_src {X : World} {b o : Nat} {l : List Int} (hb : b < X.heap.size) (hc : ∀ j, j < l.length → X.cell? ⟨b, o + j, none⟩ = some (.int .i64 (nth l j))) : ∀ j u, (l.map (Value.int .i64))[j]? = some u → (X.alloc (.cells #[] 3)).cell? ((⟨b, o, none⟩ : Addr).add j) = some u := fun j u hj => by
  rw [List.getElem?_map] at hj
  have hlt : j < l.length := by
    rcases Nat.lt_or_ge j l.length with h | h
    · exact h
    · rw [List.getElem?_eq_none h] at hj; cases hj
  have h := (((Below.refl _ X).alloc (Nat.le_refl _) (.cells #[] 3)).cell (p := ⟨b, o + j, none⟩) hb).trans (hc j hlt)
  rw [nth_at l j hlt] at h
  rw [List.getElem?_eq_getElem hlt] at hj
  simp at hj
  rw [← hj]
  have e : (⟨b, o, none⟩ : Addr).add j = ⟨b, o + j, none⟩ := by
    unfold Addr.add
    split <;> simp_all
  rw [e]
  exact h
theorem own_of {w w1 : World} {g cap : Nat} {l : List Int} (hown : w1.ownsRow w.heap.size 3 1 (.slice (some ⟨g, 0, none⟩) l.length cap) l.length (l.map (Value.int .i64))) (hb : Below w.heap.size w w1) : Own w.heap.size g l.length cap l w w1 :=
  ⟨rfl, (hown.lt g rfl).1, hown, hb⟩
set_option maxHeartbeats 1000000 in
theorem clone_any (l : List Int) (b o c : Nat) (hl : l.length ≤ c) (hl2 : l.length ≤ 2500) (hc63 : c ≤ 9223372036854775807) (w : World) (hb : b < w.heap.size) (hI : ∀ j, j < l.length → w.cell? ⟨b, o + j, none⟩ = some (.int .i64 (nth l j))) :
    Calls Try.prog 35 #[.slice (some ⟨b, o, none⟩) l.length c] w fun e w' => ∃ g cap, e = .returned (.slice (some ⟨g, 0, none⟩) l.length cap) ∧ Own w.heap.size g l.length cap l w w' := by
  obtain ⟨i0, hi, hz0, hz1, hz2⟩ := info_parts info3
  have ho := own0 w
  have HNs := Lib.hid (app_src hb hI)
  have HOf := Lib.hid (fun (w1 : World) (g cap : Nat) h1 h2 => own_of (w := w) (w1 := w1) (g := g) (cap := cap) (l := l) h1 h2)
  clear hI
  generalize hn : l.length = n at *
  have HN := Lib.hid hn
  have hnil : ∀ W, (binOp .eql 36 (.slice (some ⟨b, o, none⟩) n c) (.slice none 0 0)).run Try.prog W = .ok (.bool false) W := fun W => Lib.run_eql_slice_nil W _ _ (some ⟨b, o, none⟩) n c 0 0 Try.underlying36
  clear hn
  go_enter Try.func35, Try.ntmps35
  go_wp2_with (at_builtin; refine wpList_append_own _ rfl _ _ 36 rfl w.heap.size 3 i0 (.int .i64 0) 1 8 Try.underlying36 hi hz0 hz1 hz2 rfl (by decide) _ _ _ rfl ho ⟨b, o, none⟩ _ c (l.map (Value.int .i64)) rfl (by simp [HN.out]) HNs.out (by simp [Value.oneCell']) (by unfold maxLen; omega) (by omega) (by simp) ?_)
  intro v' w1 hown hgrow hne
  obtain ⟨g, cap, rfl⟩ := own_form hown hne
  have HB := Lib.hid ((bl_al (Below.refl _ _) _).grown hgrow (by simp) (fun j hj => by simp [Value.ownBlock] at hj; omega) : Below w.heap.size w w1)
  have HO := Lib.hid hown
  clear hgrow hown hne ho HNs
  go_wp2
  go_ret
  exact ⟨g, _, rfl, HOf.out w1 g _ (by simpa using HO.out) HB.out⟩
theorem made_own' {B : Nat} {w w1 w2 : World} {n : Nat} (hB : B ≤ w1.heap.size) (hown : w2.ownsRow B 3 1 (.slice (some ⟨w1.heap.size, 0, none⟩) n n) n (madeCells #[.int .i64 0] n).toList) (hb : Below B w w2) : Own B w1.heap.size n n (List.replicate n 0) w w2 :=
  ⟨by simp, hB, by rw [List.map_replicate, ← toList_madeCells_one]; exact hown, hb⟩
/-- a list that came in: its first K numbers -/
def Arg (K : Nat) (W : World) (a : Option Addr) (n c : Nat) (l : List Int) : Prop :=
  (a = none ∧ n = 0 ∧ c = 0 ∧ l = []) ∨ (∃ ad, a = some ad ∧ n = 0 ∧ c ≤ 9223372036854775807 ∧ l = []) ∨
  ∃ b o, a = some ⟨b, o, none⟩ ∧ n ≤ c ∧ c ≤ 9223372036854775807 ∧ b < W.heap.size ∧ (∀ j, j < l.length → W.cell? ⟨b, o + j, none⟩ = some (.int .i64 (nth l j))) ∧ ((n ≤ K ∧ l.length = n) ∨ (K < n ∧ l.length = K))
theorem Arg.keep {K : Nat} {W W1 : World} {a : Option Addr} {n c : Nat} {l : List Int} (h : Arg K W a n c l) (hb : Below W.heap.size W W1) : Arg K W1 a n c l := by
  rcases h with h | h | ⟨b, o, e, h1, h2, h3, h4, h5⟩
  · exact Or.inl h
  · exact Or.inr (Or.inl h)
  · exact Or.inr (Or.inr ⟨b, o, e, h1, h2, Nat.lt_of_lt_of_le h3 hb.size, fun j hj => (hb.cell (p := ⟨b, o + j, none⟩) h3).trans (h4 j hj), h5⟩)
theorem Arg.len {K : Nat} {W : World} {a : Option Addr} {n c : Nat} {l : List Int} (h : Arg K W a n c l) : l.length ≤ K := by
  rcases h with ⟨_, _, _, rfl⟩ | ⟨_, _, _, _, rfl⟩ | ⟨b, o, e, h1, h2, h3, h4, h5⟩
  · simp
  · simp
  · omega
end Go.Proofs.Ytaihmkflhapjeaa

import Derived.Test.YteoionlnnjcggaaProg
import Derived.WalkKit
import Derived.ProofKit
import Derived.OpenShut
import Derived.Below
import Derived.Lib.Hide
import Derived.LoopTactic
import Derived.IntWalk
import Derived.OwnWalk
import Derived.Laws.AppendOwn
import Derived.Laws.OwnMore
import Derived.Deep.AppendLies
import Derived.Maps.AppendAt
import Derived.Deep.QuietTactic
import Derived.BigQuiet
import Derived.Deep.RegionWith
import Derived.Deep.RegionHeld3
import Derived.BigRegion
import Derived.Lib.SliceRun
import Derived.Laws.ShiftsVar

/-
  Words for lists of numbers in blocks of their own.
-/
namespace Go.Proofs.Yteoionlnnjcggaa.od
open Go.RowKit
set_option linter.unusedVariables false

theorem bl_al {a w : World} (h : Below a.heap.size a w) (o : Obj) : Below a.heap.size a (w.alloc o) := h.alloc h.size o
theorem bl_tr {a w w1 : World} (h : Below a.heap.size a w) (k : Below w.heap.size w w1) : Below a.heap.size a w1 := h.trans (k.mono h.size)
theorem bl_dn {B : Nat} {a w : World} (h : Below B a w) (n : Nat) : Below B a (w.drewN n) := ⟨h.os, h.tape, h.output, h.size, h.block⟩
theorem bl_drew (X : World) : Below X.heap.size X X.drew := ⟨rfl, rfl, rfl, Nat.le_refl _, fun _ _ => rfl⟩
theorem bl_undr {X w : World} (h : Below X.drew.heap.size X.drew w) : Below X.heap.size X w := ⟨h.os, h.tape, h.output, h.size, h.block⟩
theorem lt_hp {w : World} {k : Nat} {o : Obj} (h : w.heap[k]? = some o) : k < w.heap.size := by
  rcases Nat.lt_or_ge k w.heap.size with hlt | hge
  · exact hlt
  · rw [Array.getElem?_eq_none hge] at h; cases h
/-- a number of a list -/
def nth (l : List Int) (j : Nat) : Int := l[j]?.getD 0
theorem nth_at (l : List Int) (j : Nat) (h : j < l.length) : nth l j = l[j] := by unfold nth; rw [List.getElem?_eq_getElem h]; rfl
theorem nth_set (l : List Int) (i j : Nat) (v : Int) (hi : i < l.length) : nth (l.set i v) j = if i = j then v else nth l j := by
  unfold nth
  rw [List.getElem?_set]
  by_cases h : i = j
  · subst h; simp [hi]
  · simp [h]
theorem nth_ext (l m : List Int) (h : l.length = m.length) (he : ∀ j, j < l.length → nth l j = nth m j) : l = m := by
  apply List.ext_getElem h
  intro j h1 h2
  have := he j h1
  rwa [nth_at l j h1, nth_at m j h2] at this
attribute [irreducible] nth
/-- a list in a block of its own, all of it -/
def Own (B g n cap : Nat) (l : List Int) (w0 wr : World) : Prop := l.length = n ∧ B ≤ g ∧ wr.ownsRow B 3 1 (.slice (some ⟨g, 0, none⟩) n cap) n (l.map (Value.int .i64)) ∧ Below B w0 wr
theorem Own.cell {B g n cap : Nat} {l : List Int} {w0 wr : World} (h : Own B g n cap l w0 wr) (j : Nat) (hj : j < n) : wr.cell? ⟨g, j, none⟩ = some (.int .i64 (nth l j)) := by
  obtain ⟨h1, h2, h3, h4⟩ := h
  rw [h3.cellAt j (by omega), List.getElem?_map, List.getElem?_eq_getElem (by omega), nth_at l j (by omega)]
  rfl
theorem Own.frozen {B g n cap : Nat} {l : List Int} {w0 wr : World} (h : Own B g n cap l w0 wr) (j : Nat) : wr.frozen? ⟨g, j, none⟩ = false := h.2.2.1.frozenAt j
theorem Own.set {B g n cap : Nat} {l : List Int} {w0 wr : World} (h : Own B g n cap l w0 wr) (j : Nat) (v : Int) : Own B g n cap (l.set j v) w0 (wr.setCell ⟨g, j, none⟩ (.int .i64 v)) := by
  obtain ⟨h1, h2, h3, h4⟩ := h
  refine ⟨by simpa using h1, h2, ?_, h4.setCell (p := ⟨g, j, none⟩) h2 _⟩
  rw [List.map_set]
  exact (h3.stored j _).1
theorem Own.blk {B g n cap : Nat} {l : List Int} {w0 wr : World} (h : Own B g n cap l w0 wr) : ∃ cur, wr.heap[g]? = some (.cells cur 3 (0, 0)) := by
  rcases h.2.2.1.2 with ⟨h', _⟩ | ⟨g', cap', cur, h', _, hg, _⟩
  · cases h'
  · injection h' with h' _ _
    injection h' with h'
    injection h' with h'
    subst h'
    exact ⟨cur, hg⟩
theorem Own.keep {B g n cap : Nat} {l : List Int} {w0 wr w1 : World} (h : Own B g n cap l w0 wr) (hb : Below wr.heap.size wr w1) : Own B g n cap l w0 w1 := by
  obtain ⟨cur, hg⟩ := h.blk
  have hl := lt_hp hg
  obtain ⟨h1, h2, h3, h4⟩ := h
  refine ⟨h1, h2, ?_, h4.trans (hb.mono (by omega))⟩
  obtain ⟨a1, a2⟩ := h3
  refine ⟨a1, ?_⟩
  rcases a2 with hn | ⟨g', cap', cur', hv, hg', hh, r⟩
  · exact Or.inl hn
  · exact Or.inr ⟨g', cap', cur', hv, hg', (hb.block g' (lt_hp hh)).trans hh, r⟩
end Go.Proofs.Yteoionlnnjcggaa.od

/-
  What rising, anyNegative, Same and Is answer.
-/
namespace Go.Proofs.Yteoionlnnjcggaa.od
open Go.RowKit
set_option linter.unusedVariables false

theorem info3 : (Try.prog.info? 3).map (fun i => (i.zero, i.size, i.bytes)) = some (some (.int .i64 0), 1, 8) := by kernel_rfl
def pre (n k : Nat) : List Int := (List.range n).map fun j => if j < k then (j : Int) else 0
theorem pre_len (n k : Nat) : (pre n k).length = n := by unfold pre; simp
theorem pre_nth (n k j : Nat) (h : j < n) : nth (pre n k) j = if j < k then (j : Int) else 0 := by
  rw [nth_at _ _ (by rw [pre_len]; exact h)]; unfold pre; simp
theorem pre_zero (n : Nat) : pre n 0 = List.replicate n 0 := by
  refine nth_ext _ _ (by rw [pre_len]; simp) (fun j hj => ?_)
  rw [pre_len] at hj
  rw [pre_nth n 0 j hj, nth_at _ _ (by simpa using hj)]; simp
theorem pre_next (n k : Nat) (hk : k < n) : (pre n k).set k (k : Int) = pre n (k + 1) := by
  refine nth_ext _ _ (by rw [List.length_set, pre_len, pre_len]) (fun j hj => ?_)
  rw [List.length_set, pre_len] at hj
  rw [nth_set _ _ _ _ (by rw [pre_len]; exact hk), pre_nth n k j hj, pre_nth n (k + 1) j hj]
  by_cases h : k = j
  · subst h; simp
  · have : j < k ↔ j < k + 1 := by omega
    simp [h, this]
attribute [irreducible] pre
/-- the numbers from nought on -/
def upTo (n : Nat) : List Int := pre n n
theorem upTo_len (n : Nat) : (upTo n).length = n := pre_len n n
theorem upTo_nth (n j : Nat) (h : j < n) : nth (upTo n) j = j := by unfold upTo; rw [pre_nth n n j h, if_pos h]
set_option maxHeartbeats 2000000 in
theorem rising_any (n : Nat) (hn : n ≤ 1000) (w : World) :
    Calls Try.prog 49 #[.int .i64 n] w fun e w' => ∃ g, e = .returned (.slice (some ⟨g, 0, none⟩) n n) ∧ Own w.heap.size g n n (upTo n) w w' := by
  obtain ⟨i0, hi, hz0, hz1, hz2⟩ := info_parts info3
  go_enter Try.func49, Try.ntmps49
  go_wp2_with (at_make; refine wpList_make_full _ rfl _ _ 22 rfl w.heap.size 3 i0 (.int .i64 0) 1 Try.underlying22 hi hz0 hz1 .i64 .i64 _ _ n rfl rfl rfl rfl (by rw [hz2]; omega) (by unfold maxLen; omega) (Nat.le_refl _) ?_)
  intro w2 hown hgrow
  have A0 : Hid (Own w.heap.size w.heap.size n n (pre n 0) w w2) := ⟨pre_len n 0, Nat.le_refl _, by rw [pre_zero, List.map_replicate, ← toList_madeCells_one]; exact hown, (Below.refl _ _).grown hgrow (Nat.le_refl _) (fun j hj => by cases hj)⟩
  clear hown hgrow
  have gg : ∃ g, g = w.heap.size := ⟨_, rfl⟩
  obtain ⟨g, hg⟩ := gg
  rw [← hg] at A0
  go_wp2
  rw [← hg]
  have HG := Lib.hid hg
  clear hg
  go_loopw [9] (fun i wr => ∃ k : Nat, k ≤ n ∧ i = .int .i64 k ∧ Hid (Own g g n n (pre n k) w wr)) (fun i _ => n - (intOf i).toNat)
  case atStart => exact ⟨0, by omega, rfl, A0⟩
  case round =>
    clear A0
    obtain ⟨k, hk, rfl, HP⟩ := hrel
    by_cases hlt : k < n
    · have o1 := HP.out.cell k hlt
      have o2 := HP.out.frozen k
      go_wp2
      go_roundw
      case rel => exact ⟨k + 1, by omega, by go_num, by rw [← pre_next n k hlt]; exact HP.out.set k _⟩
      case measure => simp [intOf]; omega
    · obtain rfl : n = k := by omega
      go_wp2
      go_ret
      exact ⟨g, rfl, by rw [← HG.out]; exact HP.out⟩
end Go.Proofs.Yteoionlnnjcggaa.od

/-
  Orders: plain mathematics.
-/
namespace Go.Proofs.Yteoionlnnjcggaa.od
set_option linter.unusedVariables false

theorem perm_pig : ∀ (n : Nat) (l : List Int), (∀ j, j < n → (j : Int) ∈ l) → n ≤ l.length ∧ (l.length = n → (∀ j, j < n → l.count (j : Int) = 1) ∧ ∀ x ∈ l, 0 ≤ x ∧ x < n)
  | 0, l, _ => ⟨Nat.zero_le _, fun h => by
      have := List.eq_nil_of_length_eq_zero h
      subst this
      exact ⟨fun j hj => absurd hj (by omega), fun x hx => absurd hx (by simp)⟩⟩
  | n + 1, l, h => by
    have hn : (n : Int) ∈ l := h n (by omega)
    have hl := List.length_erase_of_mem hn
    have hpos : 0 < l.length := List.length_pos_of_mem hn
    obtain ⟨p1, p2⟩ := perm_pig n (l.erase (n : Int)) (fun j hj => (List.mem_erase_of_ne (by omega)).2 (h j (by omega)))
    refine ⟨by omega, fun hlen => ?_⟩
    obtain ⟨q1, q2⟩ := p2 (by omega)
    refine ⟨fun j hj => ?_, fun x hx => ?_⟩
    · by_cases e : j = n
      · subst e
        have c0 : (l.erase (j : Int)).count (j : Int) = 0 := List.count_eq_zero.2 (fun hm => by have := q2 _ hm; omega)
        have c1 := List.count_erase_self (a := (j : Int)) (l := l)
        have c2 : 0 < l.count (j : Int) := List.count_pos_iff.2 hn
        omega
      · have := q1 j (by omega)
        rwa [List.count_erase_of_ne (by omega)] at this
    · by_cases e : x = (n : Int)
      · omega
      · have := q2 x ((List.mem_erase_of_ne e).2 hx)
        omega
theorem nodup_len : ∀ (n : Nat) (l : List Int), l.Nodup → (∀ x ∈ l, 0 ≤ x ∧ x < n) → l.length ≤ n
  | 0, l, _, h => by
    cases l with
    | nil => simp
    | cons x l => have := h x (List.mem_cons_self ..); omega
  | n + 1, l, hd, h => by
    by_cases hn : (n : Int) ∈ l
    · have hl := List.length_erase_of_mem hn
      have := nodup_len n (l.erase (n : Int)) (hd.erase _) (fun x hx => by
        have h1 := h x (List.mem_of_mem_erase hx)
        have h2 : x ≠ (n : Int) := fun e => by
          subst e
          exact (List.Nodup.not_mem_erase hd) hx
        omega)
      omega
    · have := nodup_len n l hd (fun x hx => by
        have h1 := h x hx
        have h2 : x ≠ (n : Int) := fun e => hn (e ▸ hx)
        omega)
      omega
theorem nodup_all : ∀ (n : Nat) (l : List Int), l.Nodup → (∀ x ∈ l, 0 ≤ x ∧ x < n) → l.length = n → ∀ j, j < n → (j : Int) ∈ l
  | 0, l, _, _, _, j, hj => absurd hj (by omega)
  | n + 1, l, hd, h, hl, j, hj => by
    by_cases hn : (n : Int) ∈ l
    · by_cases hjn : j = n
      · subst hjn; exact hn
      · have he := List.length_erase_of_mem hn
        have := nodup_all n (l.erase (n : Int)) (hd.erase _) (fun x hx => by
          have h1 := h x (List.mem_of_mem_erase hx)
          have h2 : x ≠ (n : Int) := fun e => by
            subst e
            exact (List.Nodup.not_mem_erase hd) hx
          omega) (by omega) j (by omega)
        exact List.mem_of_mem_erase this
    · have := nodup_len n l hd (fun x hx => by
        have h1 := h x hx
        have h2 : x ≠ (n : Int) := fun e => hn (e ▸ hx)
        omega)
      omega
/-- an order -/
def isP (p : List Int) : Prop := ∀ k, k < p.length → p.count (k : Int) = 1
/-- so far an order -/
def okTo (p : List Int) (k : Nat) : Prop := (∀ j, j < k → 0 ≤ nth p j ∧ nth p j < p.length) ∧ ∀ i j, i < j → j < k → nth p i ≠ nth p j
theorem isP_mem {p : List Int} (h : isP p) : ∀ j, j < p.length → (j : Int) ∈ p := fun j hj => List.count_pos_iff.1 (by rw [h j hj]; decide)
theorem isP_ok {p : List Int} (h : isP p) : okTo p p.length := by
  have P := (perm_pig p.length p (isP_mem h)).2 rfl
  have R : ∀ j, j < p.length → 0 ≤ nth p j ∧ nth p j < p.length := fun j hj => by rw [nth_at p j hj]; exact P.2 _ (List.getElem_mem hj)
  refine ⟨R, fun i j hij hj he => ?_⟩
  have r := R i (by omega)
  obtain ⟨k, hk⟩ : ∃ k : Nat, nth p i = k := ⟨(nth p i).toNat, by omega⟩
  have c := h k (by omega)
  have hi : p[i]'(by omega) = (k : Int) := by rw [← nth_at p i (by omega)]; exact hk
  have hj' : p[j]'(by omega) = (k : Int) := by rw [← nth_at p j (by omega), ← he]; exact hk
  have e := List.take_append_drop (i + 1) p
  have c1 : 0 < (p.take (i + 1)).count (k : Int) := List.count_pos_iff.2 (by
    rw [List.mem_iff_getElem]
    exact ⟨i, by simp; omega, by rw [List.getElem_take]; exact hi⟩)
  have c2 : 0 < (p.drop (i + 1)).count (k : Int) := List.count_pos_iff.2 (by
    rw [List.mem_iff_getElem]
    exact ⟨j - (i + 1), by simp; omega, by rw [List.getElem_drop]; rw [← hj']; congr 1; omega⟩)
  rw [← e, List.count_append] at c
  omega
theorem ok_isP {p : List Int} (h : okTo p p.length) : isP p := by
  have hd : p.Nodup := by
    refine List.pairwise_iff_getElem.2 (fun i j hi hj hij => ?_)
    have := h.2 i j hij hj
    rwa [nth_at p i hi, nth_at p j hj] at this
  have hr : ∀ x ∈ p, 0 ≤ x ∧ x < p.length := fun x hx => by
    obtain ⟨j, hj, rfl⟩ := List.mem_iff_getElem.1 hx
    have := h.1 j hj
    rwa [nth_at p j hj] at this
  exact ((perm_pig p.length p (nodup_all p.length p hd hr rfl)).2 rfl).1
theorem isP_iff (p : List Int) : isP p ↔ okTo p p.length := ⟨isP_ok, ok_isP⟩
end Go.Proofs.Yteoionlnnjcggaa.od

/-
  What Is, Same, anyNegative and the reference's Is answer.
-/
namespace Go.Proofs.Yteoionlnnjcggaa.od
open Go.RowKit
set_option linter.unusedVariables false

/-- a list of numbers in memory -/
def Ints (W : World) (a : Option Addr) (l : List Int) : Prop := ∀ j, j < l.length → ∃ b o, a = some ⟨b, o, none⟩ ∧ b < W.heap.size ∧ W.cell? ⟨b, o + j, none⟩ = some (.int .i64 (nth l j))
theorem Ints.keep {W W1 : World} {a : Option Addr} {l : List Int} (h : Ints W a l) (hb : Below W.heap.size W W1) : Ints W1 a l := fun j hj => by
  obtain ⟨b, o, h1, h2, h3⟩ := h j hj
  exact ⟨b, o, h1, Nat.lt_of_lt_of_le h2 hb.size, (hb.cell (p := ⟨b, o + j, none⟩) h2).trans h3⟩
theorem Own.ints {B g n cap : Nat} {l : List Int} {w0 wr : World} (h : Own B g n cap l w0 wr) : Ints wr (some ⟨g, 0, none⟩) l := fun j hj => by
  obtain ⟨cur, hg⟩ := h.blk
  exact ⟨g, 0, rfl, lt_hp hg, by rw [Nat.zero_add]; exact h.cell j (by rw [h.1] at hj; exact hj)⟩
set_option maxHeartbeats 1000000 in
theorem same_core (x y : List Int) (b : Bool) (hl : y.length = x.length) (hb : b = true ↔ ∀ j, j < x.length → nth x j = nth y j) (hn : x.length ≤ 1000) (xa ya : Option Addr) (xc yc : Nat) (w : World) (h1 : Ints w xa x) (h2 : Ints w ya y) :
    Calls Try.prog 21 #[.slice xa x.length xc, .slice ya y.length yc] w fun e w' => e = .returned (.bool b) ∧ Below w.heap.size w w' := by
  have HX := Lib.hid h1
  have HY := Lib.hid (fun j (hj : j < x.length) => h2 j (by omega))
  have HB := Lib.hid hb
  rw [hl]
  clear h1 h2 hl hb
  have HXl := Lib.hid (fun j (hj : j < x.length) => HX.out j hj)
  clear HX
  generalize x.length = n at *
  go_enter Try.func21, Try.ntmps21
  go_wp2
  go_loopw [5] (fun i wr => ∃ k : Nat, k ≤ n ∧ i = .int .i64 k ∧ Hid (∀ j, j < k → nth x j = nth y j) ∧ ∃ m, wr = w.drewN m) (fun i _ => n - (intOf i).toNat)
  case atStart => exact ⟨0, by omega, rfl, fun j hj => absurd hj (by omega), 0, rfl⟩
  case round =>
    obtain ⟨k, hk, rfl, HE, m, rfl⟩ := hrel
    have kb1 : (0 : Int) ≤ (k : Int) := by omega
    by_cases hlt : k < n
    · have kb2 : (k : Int) < (n : Int) := by omega
      obtain ⟨b1, o1, rfl, l1, c1⟩ := HXl.out k hlt
      obtain ⟨b2, o2, rfl, l2, c2⟩ := HY.out k hlt
      by_cases he : nth x k = nth y k
      · have HE2 : Hid (∀ j, j < k + 1 → nth x j = nth y j) := fun j hj => by
          rcases Nat.lt_or_ge j k with h | h
          · exact HE.out j h
          · obtain rfl : j = k := by omega
            exact he
        rw [← he] at c2
        generalize nth x k = t at *
        have e1 : (t != t) = false := by simp
        clear he
        go_wp2
        go_quiet (fail)
        go_wp2
        go_roundw
        case rel => exact ⟨k + 1, by omega, by go_num, HE2, _, rfl⟩
        case measure => simp [intOf]; omega
      · have hbf : b = false := by
          cases b
          · rfl
          · exact absurd (HB.out.1 rfl k hlt) he
        subst hbf
        generalize nth x k = t at *
        generalize nth y k = s at *
        have e1 : (t != s) = true := by simpa using he
        clear he
        go_wp2
        go_quiet (fail)
        go_wp2
        go_ret
        exact ⟨rfl, bl_dn (bl_dn (Below.refl _ _) _) _⟩
    · obtain rfl : n = k := by omega
      have hbt : b = true := HB.out.2 HE.out
      subst hbt
      go_wp2
      go_ret
      exact ⟨rfl, bl_dn (Below.refl _ _) _⟩
theorem same_any (x y : List Int) (hn : x.length ≤ 1000) (hy : y.length ≤ 1000) (xa ya : Option Addr) (xc yc : Nat) (w : World) (h1 : Ints w xa x) (h2 : Ints w ya y) :
    Calls Try.prog 21 #[.slice xa x.length xc, .slice ya y.length yc] w fun e w' => e = .returned (.bool (decide (x = y))) ∧ Below w.heap.size w w' := by
  by_cases hl : y.length = x.length
  · refine same_core x y _ hl ?_ hn xa ya xc yc w h1 h2
    simp only [decide_eq_true_eq]
    exact ⟨fun h => by subst h; exact fun _ _ => rfl, fun h => nth_ext x y hl.symm h⟩
  · have e : decide (x = y) = false := by
      simp only [decide_eq_false_iff_not]; intro h; subst h; exact hl rfl
    rw [e]
    clear e h1 h2
    generalize x.length = n at *
    generalize y.length = m at *
    have e1 : ((n : Int) != (m : Int)) = true := by simp; omega
    go_enter Try.func21, Try.ntmps21
    go_wp2
    go_ret
    exact ⟨rfl, Below.refl _ _⟩
/-! anyNegative -/
theorem neg_any (n : Int) (w : World) : Calls Try.prog 48 #[.int .i64 n] w fun e w' => e = .returned (.bool (decide (n < 0))) ∧ w = w' := by
  by_cases h : n < 0
  · go_enter Try.func48, Try.ntmps48
    go_wp2
    go_ret
    exact ⟨by simp [h], rfl⟩
  · go_enter Try.func48, Try.ntmps48
    go_wp2
    go_ret
    exact ⟨by simp; omega, rfl⟩
def NoNeg (l : List Int) : Prop := ∀ j, j < l.length → 0 ≤ nth l j
def Idx (l : List Int) (w : World) (e : Ending) (w' : World) : Prop := ∃ n : Int, e = .returned (.int .i64 n) ∧ w = w' ∧ (0 ≤ n ↔ ¬ NoNeg l)
set_option maxHeartbeats 1000000 in
theorem index_any (l : List Int) (a : Option Addr) (c : Nat) (w : World) (hI : Ints w a l) (hl : l.length ≤ 1000) :
    Calls Try.prog 57 #[.slice a l.length c, .func (.func 48) #[] #[]] w (Idx l w) := by
  have HI := Lib.hid (fun j (hj : j < l.length) => hI j hj)
  have HN := Lib.hid (show NoNeg l ↔ ∀ j, j < l.length → 0 ≤ nth l j from Iff.rfl)
  clear hI
  generalize l.length = n at *
  go_enter Try.func57, Try.ntmps57
  go_wp2
  go_loop [8] (fun i => ∃ k : Nat, k ≤ n ∧ i = .int .i64 k ∧ Hid (∀ j, j < k → 0 ≤ nth l j)) (fun i => n - (intOf i).toNat)
  case atStart => exact ⟨0, by omega, rfl, fun j hj => absurd hj (by omega)⟩
  case round =>
    obtain ⟨k, hk, rfl, HE⟩ := hrel
    by_cases hlt : k < n
    · obtain ⟨b, o, rfl, hbl, hc⟩ := HI.out k hlt
      by_cases hx : nth l k < 0
      · have HF := Lib.hid (show ¬ NoNeg l from fun h => by have := HN.out.1 h k hlt; omega)
        generalize nth l k = x at *
        have HC := Lib.hid (fun W => neg_any x W)
        have e1 : decide (x < 0) = true := by simpa using hx
        rw [e1] at HC
        clear hx e1
        go_wp2_with fail
        refine (HC.out _).mono ?_; rintro e w1 ⟨rfl, rfl⟩
        go_wp2
        go_ret
        exact ⟨k, rfl, rfl, ⟨fun _ => HF.out, fun _ => by omega⟩⟩
      · have HE2 : Hid (∀ j, j < k + 1 → 0 ≤ nth l j) := fun j hj => by
          rcases Nat.lt_or_ge j k with h | h
          · exact HE.out j h
          · obtain rfl : j = k := by omega
            omega
        generalize nth l k = x at *
        have HC := Lib.hid (fun W => neg_any x W)
        have e1 : decide (x < 0) = false := by simpa using hx
        rw [e1] at HC
        clear hx e1
        go_wp2_with fail
        refine (HC.out _).mono ?_; rintro e w1 ⟨rfl, rfl⟩
        go_wp2
        go_round
        case rel => exact ⟨k + 1, by omega, by go_num, HE2⟩
        case measure => simp [intOf]; omega
    · obtain rfl : n = k := by omega
      have HF := Lib.hid (HN.out.2 HE.out)
      go_wp2
      go_ret
      exact ⟨-1, rfl, rfl, ⟨fun h => by omega, fun h => absurd HF.out h⟩⟩
theorem noneg_any (l : List Int) (h : NoNeg l) (a : Option Addr) (c : Nat) (w : World) (hI : Ints w a l) (hl : l.length ≤ 1000) :
    Calls Try.prog 39 #[.slice a l.length c] w fun e w' => e = .returned (.bool false) ∧ w = w' := by
  have H := Lib.hid (index_any l a c w hI hl)
  have HN := Lib.hid h
  clear hI hl h
  generalize l.length = m at *
  have H2 : Hid (Calls Try.prog 47 #[.slice a m c, .func (.func 48) #[] #[]] w fun e w' => e = .returned (.bool false) ∧ w = w') := by
    show Calls _ _ _ _ _
    go_enter Try.func47, Try.ntmps47
    go_wp2_with fail
    refine H.out.mono ?_; rintro e w1 ⟨n, rfl, rfl, hn⟩
    have h1 : ¬ 0 ≤ n := fun h => absurd HN.out (hn.1 h)
    clear hn
    go_wp2
    go_ret
    exact ⟨by simp; omega, rfl⟩
  clear H HN
  go_enter Try.func39, Try.ntmps39
  go_wp2_with fail
  refine H2.out.mono ?_; rintro e w1 ⟨rfl, rfl⟩
  go_wp2
  go_ret
  exact ⟨rfl, rfl⟩
end Go.Proofs.Yteoionlnnjcggaa.od

/-
  What order.Is answers.
-/
namespace Go.Proofs.Yteoionlnnjcggaa.od
open Go.RowKit
set_option linter.unusedVariables false

theorem info4 : (Try.prog.info? 4).map (fun i => (i.zero, i.size, i.bytes)) = some (some (.bool false), 1, 1) := by kernel_rfl
/-- which numbers were met -/
def MetAt (B g n : Nat) (p : List Int) (k : Nat) (w wr : World) : Prop :=
  ∃ mt : List Bool, mt.length = n ∧ B ≤ g ∧ wr.ownsRow B 4 1 (.slice (some ⟨g, 0, none⟩) n n) n (mt.map Value.bool) ∧ (∀ v, v < n → (mt[v]?.getD false = true ↔ ∃ j, j < k ∧ nth p j = (v : Int))) ∧ okTo p k ∧ Below B w wr
theorem met_cell {B g n : Nat} {p : List Int} {k : Nat} {w wr : World} (h : MetAt B g n p k w wr) (v : Nat) (hv : v < n) :
    ∃ b : Bool, wr.cell? ⟨g, v, none⟩ = some (.bool b) ∧ wr.frozen? ⟨g, v, none⟩ = false ∧ (b = true ↔ ∃ j, j < k ∧ nth p j = (v : Int)) := by
  obtain ⟨mt, h1, h2, h3, h4, h5, h6⟩ := h
  refine ⟨mt[v]?.getD false, ?_, h3.frozenAt v, h4 v hv⟩
  rw [h3.cellAt v (by omega), List.getElem?_map, List.getElem?_eq_getElem (by omega)]
  rfl
theorem met_next {B g : Nat} {p : List Int} {k : Nat} {w wr : World} (h : MetAt B g p.length p k w wr) (hk : k < p.length) (v : Nat) (hv : v < p.length) (ht : nth p k = (v : Int)) (hn : ¬ ∃ j, j < k ∧ nth p j = (v : Int)) :
    MetAt B g p.length p (k + 1) w (wr.setCell ⟨g, v, none⟩ (.bool true)) := by
  obtain ⟨mt, h1, h2, h3, h4, h5, h6⟩ := h
  refine ⟨mt.set v true, by simpa using h1, h2, ?_, fun u hu => ?_, ⟨fun j hj => ?_, fun i j hij hj => ?_⟩, h6.setCell (p := ⟨g, v, none⟩) h2 _⟩
  · rw [List.map_set]; exact (h3.stored v _).1
  · rw [List.getElem?_set]
    by_cases huv : v = u
    · subst huv
      rw [if_pos rfl, if_pos (by omega)]
      simp only [Option.getD_some, true_iff]
      exact ⟨k, by omega, ht⟩
    · rw [if_neg huv, h4 u hu]
      constructor
      · rintro ⟨j, hj, e⟩; exact ⟨j, by omega, e⟩
      · rintro ⟨j, hj, e⟩
        refine ⟨j, ?_, e⟩
        rcases Nat.lt_or_ge j k with q | q
        · exact q
        · obtain rfl : j = k := by omega
          omega
  · rcases Nat.lt_or_ge j k with q | q
    · exact h5.1 j q
    · obtain rfl : j = k := by omega
      omega
  · rcases Nat.lt_or_ge j k with q | q
    · exact h5.2 i j hij q
    · obtain rfl : j = k := by omega
      intro e
      exact hn ⟨i, hij, by omega⟩
theorem ok_mono {p : List Int} {k m : Nat} (h : okTo p m) (hk : k ≤ m) : okTo p k := ⟨fun j hj => h.1 j (by omega), fun i j hij hj => h.2 i j hij (by omega)⟩
attribute [local irreducible] okTo
end Go.Proofs.Yteoionlnnjcggaa.od

/-
  What the library's insertion sort leaves of a list of numbers, with the comparison of order.ByRatio.
-/
namespace Go.Proofs.Yteoionlnnjcggaa.od
open Go.RowKit
set_option linter.unusedVariables false

def swp (l : List Int) (j : Nat) : List Int := (l.set (j + 1) (nth l j)).set j (nth l (j + 1))
def insIn (c : Int → Int → Int) (a : Nat) : Nat → List Int → List Int
  | 0, l => l
  | j + 1, l => if a ≤ j ∧ c (nth l (j + 1)) (nth l j) < 0 then insIn c a j (swp l j) else l
def insOut (c : Int → Int → Int) (a : Nat) : Nat → Nat → List Int → List Int
  | 0, i, l => l
  | b + 1, i, l => insOut c a b (i + 1) (insIn c a i l)
theorem insIn_yes (c : Int → Int → Int) (a j : Nat) (l : List Int) (h1 : a ≤ j) (h2 : c (nth l (j + 1)) (nth l j) < 0) : insIn c a (j + 1) l = insIn c a j (swp l j) := by simp only [insIn]; rw [if_pos ⟨h1, h2⟩]
theorem insIn_no (c : Int → Int → Int) (a j : Nat) (l : List Int) (h : ¬ (a ≤ j ∧ c (nth l (j + 1)) (nth l j) < 0)) : insIn c a (j + 1) l = l := by simp only [insIn]; rw [if_neg h]
theorem insIn_low (c : Int → Int → Int) (a j : Nat) (l : List Int) (h : j ≤ a) : insIn c a j l = l := by
  cases j with
  | zero => rfl
  | succ j => exact insIn_no c a j l (fun hh => by omega)
theorem insOut_zero (c : Int → Int → Int) (a i : Nat) (l : List Int) : insOut c a 0 i l = l := rfl
theorem insOut_succ (c : Int → Int → Int) (a b i : Nat) (l : List Int) : insOut c a (b + 1) i l = insOut c a b (i + 1) (insIn c a i l) := rfl
def Rng (n : Nat) (l : List Int) : Prop := ∀ j, j < n → 0 ≤ nth l j ∧ nth l j < n
theorem Rng.swp {n : Nat} {l : List Int} (h : Rng n l) (hl : l.length = n) (j : Nat) (hj : j + 1 < n) : Rng n (swp l j) := fun i hi => by
  unfold Yteoionlnnjcggaa.od.swp
  rw [nth_set _ _ _ _ (by simp; omega), nth_set _ _ _ _ (by omega)]
  split
  · exact h _ (by omega)
  · split
    · exact h _ (by omega)
    · exact h _ hi
theorem insIn_len (c : Int → Int → Int) (a : Nat) : ∀ j (l : List Int), (insIn c a j l).length = l.length
  | 0, l => rfl
  | j + 1, l => by
    simp only [insIn]
    split
    · rw [insIn_len c a j]; unfold swp; simp
    · rfl
theorem Own.swp {B g n cap : Nat} {l : List Int} {w0 wr : World} (h : Own B g n cap l w0 wr) (j : Nat) : Own B g n cap (swp l j) w0 ((wr.setCell ⟨g, j + 1, none⟩ (.int .i64 (nth l j))).setCell ⟨g, j, none⟩ (.int .i64 (nth l (j + 1)))) :=
  (h.set (j + 1) (nth l j)).set j (nth l (j + 1))
attribute [irreducible] insIn insOut swp
/-- what the comparison is asked -/
def Cmp26 (c : Int → Int → Int) (n : Nat) (p1 p2 : Value) (B : Nat) (w0 : World) : Prop :=
  ∀ (x y : Int) (W : World), 0 ≤ x → x < n → 0 ≤ y → y < n → Below B w0 W → Calls Try.prog 41 #[.int .i64 x, .int .i64 y, p1, p2] W fun e w' => e = .returned (.int .i64 (c x y)) ∧ Below W.heap.size W w'
set_option maxRecDepth 100000 in
set_option maxHeartbeats 4000000 in
theorem ins26_any (c : Int → Int → Int) (hcb : ∀ x y, -1 ≤ c x y ∧ c x y ≤ 1) (B g n cap : Nat) (p1 p2 : Value) (w0 : World) (hc : Cmp26 c n p1 p2 B w0) (hn : n ≤ 1000) (hcap : n ≤ cap) (hcap2 : cap ≤ 9223372036854775807) (a b : Nat) (hab : a ≤ b) (hbn : b ≤ n) (l : List Int) (hr : Rng n l) (w : World) (ho : Own B g n cap l w0 w) :
    Calls Try.prog 65 #[.slice (some ⟨g, 0, none⟩) n cap, .int .i64 a, .int .i64 b, .func (.func 41) #[] #[p1, p2]] w fun e w' => e = .returned (.tuple #[]) ∧ Own B g n cap (insOut c a (b - (a + 1)) (a + 1) l) w0 w' := by
  have HC := Lib.hid hc
  have HO := Lib.hid ho
  have HR := Lib.hid hr
  have HB := Lib.hid hcb
  clear hc ho hr hcb
  go_enter Try.func65, Try.ntmps65
  go_wp2
  go_loopw [8] (fun i wr => ∃ (k : Nat) (l' : List Int), a + 1 ≤ k ∧ (k ≤ b ∨ k = a + 1) ∧ i = .int .i64 k ∧ Hid (insOut c a (b - (a + 1)) (a + 1) l = insOut c a (b - k) k l') ∧ Hid (Rng n l') ∧ Hid (Own B g n cap l' w0 wr)) (fun i _ => b - (intOf i).toNat)
  case atStart => exact ⟨a + 1, l, by omega, by omega, by go_num, rfl, HR, HO⟩
  case round =>
    clear HO HR
    obtain ⟨k, l', hk1, hk2, rfl, HE, HR, HO⟩ := hrel
    by_cases hlt : k < b
    · have hk3 : k ≤ n := by omega
      go_wp2
      go_loopw [9] (fun i wr => ∃ (j : Nat) (lj : List Int), a ≤ j ∧ j ≤ k ∧ i = .int .i64 j ∧ Hid (insIn c a k l' = insIn c a j lj) ∧ Hid (Rng n lj) ∧ Hid (Own B g n cap lj w0 wr)) (fun i _ => (intOf i).toNat)
      case atStart => exact ⟨k, l', by omega, by omega, rfl, rfl, HR, HO⟩
      case round =>
        clear HO HR
        obtain ⟨j, lj, hj1, hj2, rfl, HJ, HR, HO⟩ := hrel
        by_cases hj : a < j
        · obtain ⟨j, rfl⟩ : ∃ j', j = j' + 1 := ⟨j - 1, by omega⟩
          have hjn : j + 1 < n := by omega
          have e1 := HO.out.cell (j + 1) hjn
          have e2 := HO.out.cell j (by omega)
          obtain ⟨x1, x2⟩ := HR.out (j + 1) hjn
          obtain ⟨y1, y2⟩ := HR.out j (by omega)
          have HCm := Lib.hid (fun W (hb : Below B w0 W) => HC.out (nth lj (j + 1)) (nth lj j) W x1 x2 y1 y2 hb)
          have hcb := HB.out (nth lj (j + 1)) (nth lj j)
          have HSw := Lib.hid (HR.out.swp HO.out.1 j hjn)
          have hd : decide (a < j + 1) = true := by simp; omega
          have hd' : ((a : Int)) < (j : Int) + 1 := by omega
          have g1 : (0 : Int) ≤ (j : Int) + 1 := by omega
          have g2 : (j : Int) + 1 < (n : Int) := by omega
          have g3 : (0 : Int) ≤ (j : Int) := by omega
          have g4 : (j : Int) < (n : Int) := by omega
          have g5 : IntKind.i64.wrap ((j : Int) + 1 - 1) = (j : Int) := IntWalk.i64_in _ (by omega) |>.trans (by omega)
          have g6 : IntKind.i64.wrap (j : Int) = (j : Int) := IntWalk.i64_in _ (by omega)
          have g7 : ((j : Int) + 1).toNat = j + 1 := by omega
          have HOc := Lib.hid (fun (W : World) (h : Own B g n cap lj w0 W) => And.intro (h.cell (j + 1) hjn) (h.cell j (by omega)))
          have HOf := Lib.hid (fun (W : World) (h : Own B g n cap lj w0 W) => And.intro (h.frozen (j + 1)) (h.frozen j))
          have HOs := Lib.hid (fun (W : World) (h : Own B g n cap lj w0 W) => h.swp j)
          by_cases hc : c (nth lj (j + 1)) (nth lj j) < 0
          · have HN := Lib.hid (HJ.out.trans (insIn_yes c a j lj (by omega) hc))
            generalize hcx : c (nth lj (j + 1)) (nth lj j) = cv at *
            clear hcx
            generalize hx : nth lj (j + 1) = x at *
            generalize hy : nth lj j = y at *
            clear hx hy
            go_wp2
            go_region_held3 (fun w' => w'.cell? ⟨g, j + 1, none⟩ = some (.int .i64 x) ∧ w'.cell? ⟨g, j, none⟩ = some (.int .i64 y)) (first | exact ⟨e1, e2⟩ | exact ⟨f1, f2⟩)
              (first
                | (go_at_call 41; refine (HCm.out _ (HO.out.keep (bl_drew _)).2.2.2).mono ?_; rintro e w2 ⟨rfl, hb2⟩; have HO2 := Lib.hid (HO.out.keep (bl_undr hb2)); obtain ⟨f1, f2⟩ := HOc.out _ HO2.out; clear hb2))
            clear e1 e2
            obtain ⟨f1, f2⟩ := HOc.out _ HO2.out
            obtain ⟨z1, z2⟩ := HOf.out _ HO2.out
            go_wp2
            go_region
            all_goals
              go_wp2
              go_roundw
              case rel => exact ⟨j, swp lj j, by omega, by omega, by go_num, HN, HSw, (HOs.out _ HO2.out).keep (bl_drew _)⟩
              case measure => simp [intOf]
          · have HN := Lib.hid (HJ.out.trans (insIn_no c a j lj (fun h => hc h.2)))
            generalize hcx : c (nth lj (j + 1)) (nth lj j) = cv at *
            clear hcx
            generalize hx : nth lj (j + 1) = x at *
            generalize hy : nth lj j = y at *
            clear hx hy
            go_wp2
            go_region_held3 (fun w' => w'.cell? ⟨g, j + 1, none⟩ = some (.int .i64 x) ∧ w'.cell? ⟨g, j, none⟩ = some (.int .i64 y)) (first | exact ⟨e1, e2⟩ | exact ⟨f1, f2⟩)
              (first
                | (go_at_call 41; refine (HCm.out _ (HO.out.keep (bl_drew _)).2.2.2).mono ?_; rintro e w2 ⟨rfl, hb2⟩; have HO2 := Lib.hid (HO.out.keep (bl_undr hb2)); obtain ⟨f1, f2⟩ := HOc.out _ HO2.out; clear hb2))
            clear e1 e2
            go_wp2
            go_roundw
            case rel => exact ⟨k + 1, lj, by omega, by omega, by go_num, HE.out.trans (by rw [show b - k = (b - (k + 1)) + 1 by omega, insOut_succ, HN.out]), HR, HO2⟩
            case measure => simp [intOf]; omega
        · obtain rfl : a = j := by omega
          have HN := Lib.hid (HJ.out.trans (insIn_low c a a lj (Nat.le_refl _)))
          have hd : decide (a < a) = false := by simp
          have hd2 : decide ((a : Int) < a) = false := by simp
          go_wp2
          go_quiet (fail)
          go_wp2
          go_roundw
          case rel => exact ⟨k + 1, lj, by omega, by omega, by go_num, HE.out.trans (by rw [show b - k = (b - (k + 1)) + 1 by omega, insOut_succ, HN.out]), HR, (HO.out.keep ⟨rfl, rfl, rfl, Nat.le_refl _, fun _ _ => rfl⟩)⟩
          case measure => simp [intOf]; omega
    · have hE : insOut c a (b - (a + 1)) (a + 1) l = l' := HE.out.trans (by rw [show b - k = 0 by omega, insOut_zero])
      have HEh := Lib.hid hE
      clear hE HE
      go_wp2
      go_end0
      exact ⟨rfl, by rw [HEh.out]; exact HO.out⟩
end Go.Proofs.Yteoionlnnjcggaa.od

/-
  What arith.Cross answers of small numbers.
-/
namespace Go.Proofs.Yteoionlnnjcggaa.od
open Go.RowKit
set_option linter.unusedVariables false

theorem mask_small (x : Int) (h0 : 0 ≤ x) (h1 : x ≤ 1000000) : bits BinOp.and IntKind.u64 x 4294967295 = x := by
  obtain ⟨n, rfl⟩ : ∃ n : Nat, x = n := ⟨x.toNat, by omega⟩
  show IntKind.u64.wrap (((BitVec.ofInt 64 (n : Int) &&& BitVec.ofInt 64 4294967295).toNat : Nat) : Int) = _
  have e : (BitVec.ofInt 64 (n : Int) &&& BitVec.ofInt 64 4294967295).toNat = n := by
    rw [BitVec.toNat_and, BitVec.ofInt_natCast, BitVec.toNat_ofNat, Nat.mod_eq_of_lt (by omega)]
    have : (BitVec.ofInt 64 4294967295).toNat = 2 ^ 32 - 1 := by decide
    rw [this, Nat.and_two_pow_sub_one_eq_mod, Nat.mod_eq_of_lt (by omega)]
  rw [e]
  exact IntWalk.u64_in _ (by omega)
theorem mul_small (x y p : Int) (x0 : 0 ≤ x) (x1 : x ≤ 1000) (y0 : 0 ≤ y) (y1 : y ≤ 1000) (hp : p = x * y) (p0 : 0 ≤ p) (p1 : p ≤ 1000000) (w : World) :
    Calls Try.prog 54 #[.int .u64 x, .int .u64 y] w fun e w' => e = .returned (.tuple #[.int .u64 0, .int .u64 p]) ∧ w = w' := by
  have m1 := mask_small x x0 (by omega)
  have m2 := mask_small y y0 (by omega)
  have q1 : x / 4294967296 = 0 := by omega
  have q2 : y / 4294967296 = 0 := by omega
  have q3 : p / 4294967296 = 0 := by omega
  have hp' : x * y = p := hp.symm
  have w1 : IntKind.u64.wrap p = p := IntWalk.u64_in _ (by omega)
  have m3 : bits BinOp.and IntKind.u64 0 4294967295 = 0 := mask_small 0 (by decide) (by decide)
  clear hp
  go_enter Try.func54, Try.ntmps54
  go_wp2
  go_ret2
  exact ⟨rfl, rfl⟩
theorem prod_small (x y p : Int) (x0 : 0 ≤ x) (x1 : x ≤ 1000) (y0 : 0 ≤ y) (y1 : y ≤ 1000) (hp : p = x * y) (p0 : 0 ≤ p) (p1 : p ≤ 1000000) (w : World) :
    Calls Try.prog 52 #[.int .i64 x, .int .i64 y] w fun e w' => e = .returned (.agg #[.int .u64 0, .int .u64 p]) ∧ Below w.heap.size w w' := by
  have H := Lib.hid (fun W => mul_small x y p x0 x1 y0 y1 hp p0 p1 W)
  have u1 : IntKind.u64.wrap x = x := IntWalk.u64_in _ (by omega)
  have u2 : IntKind.u64.wrap y = y := IntWalk.u64_in _ (by omega)
  clear hp
  go_enter Try.func52, Try.ntmps52
  go_wp2_with fail
  refine (H.out _).mono ?_; rintro e w1 ⟨rfl, rfl⟩
  go_wp2
  exact bodyPost_ret (v := .agg #[.int .u64 0, .int .u64 p]) (by simp [results, Try.results52, go_sem]) rfl ⟨rfl, bl_al (Below.refl _ _) _⟩
def cmpv (a b : Int) : Int := if a < b then -1 else if b < a then 1 else 0
theorem cmpv_lt {a b : Int} (h : a < b) : cmpv a b = -1 := by unfold cmpv; rw [if_pos h]
theorem cmpv_gt {a b : Int} (h : b < a) : cmpv a b = 1 := by unfold cmpv; rw [if_neg (by omega), if_pos h]
theorem cmpv_eq {a b : Int} (h : a = b) : cmpv a b = 0 := by unfold cmpv; rw [if_neg (by omega), if_neg (by omega)]
attribute [irreducible] cmpv
theorem nan_int (x : Int) (w : World) : Calls Try.prog 51 #[.int .i64 x] w fun e w' => e = .returned (.bool false) ∧ w = w' := by
  go_enter Try.func51, Try.ntmps51
  go_wp2
  go_ret
  exact ⟨by simp, rfl⟩
theorem nan_i64 (x : Int) (w : World) : Calls Try.prog 67 #[.int .i64 x] w fun e w' => e = .returned (.bool false) ∧ w = w' := by
  go_enter Try.func67, Try.ntmps67
  go_wp2
  go_ret
  exact ⟨by simp, rfl⟩
theorem nan_u64 (x : Int) (w : World) : Calls Try.prog 68 #[.int .u64 x] w fun e w' => e = .returned (.bool false) ∧ w = w' := by
  go_enter Try.func68, Try.ntmps68
  go_wp2
  go_ret
  exact ⟨by simp, rfl⟩
theorem cmp_int (x y : Int) (w : World) : Calls Try.prog 42 #[.int .i64 x, .int .i64 y] w fun e w' => e = .returned (.int .i64 (cmpv x y)) ∧ w = w' := by
  have H1 := Lib.hid (fun W => nan_int x W)
  have H2 := Lib.hid (fun W => nan_int y W)
  rcases (show x < y ∨ y < x ∨ x = y by omega) with h | h | h
  · rw [cmpv_lt h]
    go_enter Try.func42, Try.ntmps42
    go_wp2_with fail
    refine (H1.out _).mono ?_; rintro e w1 ⟨rfl, rfl⟩
    go_wp2_with fail
    refine (H2.out _).mono ?_; rintro e w1 ⟨rfl, rfl⟩
    go_wp2
    go_ret
    exact ⟨rfl, rfl⟩
  · rw [cmpv_gt h]
    have h' : ¬ x < y := by omega
    go_enter Try.func42, Try.ntmps42
    go_wp2_with fail
    refine (H1.out _).mono ?_; rintro e w1 ⟨rfl, rfl⟩
    go_wp2_with fail
    refine (H2.out _).mono ?_; rintro e w1 ⟨rfl, rfl⟩
    go_wp2
    go_ret
    exact ⟨rfl, rfl⟩
  · rw [cmpv_eq h]
    subst h
    have h' : ¬ x < x := by omega
    go_enter Try.func42, Try.ntmps42
    go_wp2_with fail
    refine (H1.out _).mono ?_; rintro e w1 ⟨rfl, rfl⟩
    go_wp2_with fail
    refine (H1.out _).mono ?_; rintro e w1 ⟨rfl, rfl⟩
    go_wp2
    go_ret
    exact ⟨rfl, rfl⟩
theorem cmp_i64 (x y : Int) (w : World) : Calls Try.prog 59 #[.int .i64 x, .int .i64 y] w fun e w' => e = .returned (.int .i64 (cmpv x y)) ∧ w = w' := by
  have H1 := Lib.hid (fun W => nan_i64 x W)
  have H2 := Lib.hid (fun W => nan_i64 y W)
  rcases (show x < y ∨ y < x ∨ x = y by omega) with h | h | h
  · rw [cmpv_lt h]
    go_enter Try.func59, Try.ntmps59
    go_wp2_with fail
    refine (H1.out _).mono ?_; rintro e w1 ⟨rfl, rfl⟩
    go_wp2_with fail
    refine (H2.out _).mono ?_; rintro e w1 ⟨rfl, rfl⟩
    go_wp2
    go_ret
    exact ⟨rfl, rfl⟩
  · rw [cmpv_gt h]
    have h' : ¬ x < y := by omega
    go_enter Try.func59, Try.ntmps59
    go_wp2_with fail
    refine (H1.out _).mono ?_; rintro e w1 ⟨rfl, rfl⟩
    go_wp2_with fail
    refine (H2.out _).mono ?_; rintro e w1 ⟨rfl, rfl⟩
    go_wp2
    go_ret
    exact ⟨rfl, rfl⟩
  · rw [cmpv_eq h]
    subst h
    have h' : ¬ x < x := by omega
    go_enter Try.func59, Try.ntmps59
    go_wp2_with fail
    refine (H1.out _).mono ?_; rintro e w1 ⟨rfl, rfl⟩
    go_wp2_with fail
    refine (H1.out _).mono ?_; rintro e w1 ⟨rfl, rfl⟩
    go_wp2
    go_ret
    exact ⟨rfl, rfl⟩
theorem cmp_u64 (x y : Int) (w : World) : Calls Try.prog 60 #[.int .u64 x, .int .u64 y] w fun e w' => e = .returned (.int .i64 (cmpv x y)) ∧ w = w' := by
  have H1 := Lib.hid (fun W => nan_u64 x W)
  have H2 := Lib.hid (fun W => nan_u64 y W)
  rcases (show x < y ∨ y < x ∨ x = y by omega) with h | h | h
  · rw [cmpv_lt h]
    go_enter Try.func60, Try.ntmps60
    go_wp2_with fail
    refine (H1.out _).mono ?_; rintro e w1 ⟨rfl, rfl⟩
    go_wp2_with fail
    refine (H2.out _).mono ?_; rintro e w1 ⟨rfl, rfl⟩
    go_wp2
    go_ret
    exact ⟨rfl, rfl⟩
  · rw [cmpv_gt h]
    have h' : ¬ x < y := by omega
    go_enter Try.func60, Try.ntmps60
    go_wp2_with fail
    refine (H1.out _).mono ?_; rintro e w1 ⟨rfl, rfl⟩
    go_wp2_with fail
    refine (H2.out _).mono ?_; rintro e w1 ⟨rfl, rfl⟩
    go_wp2
    go_ret
    exact ⟨rfl, rfl⟩
  · rw [cmpv_eq h]
    subst h
    have h' : ¬ x < x := by omega
    go_enter Try.func60, Try.ntmps60
    go_wp2_with fail
    refine (H1.out _).mono ?_; rintro e w1 ⟨rfl, rfl⟩
    go_wp2_with fail
    refine (H1.out _).mono ?_; rintro e w1 ⟨rfl, rfl⟩
    go_wp2
    go_ret
    exact ⟨rfl, rfl⟩
theorem compare_small (p q : Int) (p0 : 0 ≤ p) (p1 : p ≤ 1000000) (q0 : 0 ≤ q) (q1 : q ≤ 1000000) (w : World) :
    Calls Try.prog 53 #[.agg #[.int .u64 0, .int .u64 p], .agg #[.int .u64 0, .int .u64 q]] w fun e w' => e = .returned (.int .i64 (cmpv p q)) ∧ Below w.heap.size w w' := by
  have H1 := Lib.hid (fun W => cmp_i64 0 0 W)
  have H2 := Lib.hid (fun W => cmp_u64 p q W)
  rw [cmpv_eq (rfl : (0 : Int) = 0)] at H1
  generalize cmpv p q = r at *
  go_enter Try.func53, Try.ntmps53
  go_wp2_with fail
  refine (H1.out _).mono ?_; rintro e w1 ⟨rfl, rfl⟩
  go_wp2_with fail
  refine (H2.out _).mono ?_; rintro e w1 ⟨rfl, rfl⟩
  go_wp2
  go_ret
  exact ⟨rfl, bl_al (bl_al (Below.refl _ _) _) _⟩
theorem mul_bd (x y : Int) (x0 : 0 ≤ x) (x1 : x ≤ 1000) (y0 : 0 ≤ y) (y1 : y ≤ 1000) : 0 ≤ x * y ∧ x * y ≤ 1000000 := by
  refine ⟨Int.mul_nonneg x0 y0, ?_⟩
  have := Int.mul_le_mul x1 y1 y0 (by omega)
  omega
theorem cross_small (a b c d : Int) (ha : 0 ≤ a ∧ a ≤ 1000) (hb : 0 ≤ b ∧ b ≤ 1000) (hc : 0 ≤ c ∧ c ≤ 1000) (hd : 0 ≤ d ∧ d ≤ 1000) (w : World) :
    Calls Try.prog 43 #[.int .i64 a, .int .i64 b, .int .i64 c, .int .i64 d] w fun e w' => e = .returned (.int .i64 (cmpv (a * b) (c * d))) ∧ Below w.heap.size w w' := by
  obtain ⟨p1, p2⟩ := mul_bd a b ha.1 ha.2 hb.1 hb.2
  obtain ⟨q1, q2⟩ := mul_bd c d hc.1 hc.2 hd.1 hd.2
  have H1 := Lib.hid (fun W => prod_small a b (a * b) ha.1 ha.2 hb.1 hb.2 rfl p1 p2 W)
  have H2 := Lib.hid (fun W => prod_small c d (c * d) hc.1 hc.2 hd.1 hd.2 rfl q1 q2 W)
  have H3 := Lib.hid (fun W => compare_small (a * b) (c * d) p1 p2 q1 q2 W)
  clear ha hb hc hd p1 p2 q1 q2
  generalize cmpv (a * b) (c * d) = r at *
  generalize a * b = p at *
  generalize c * d = q at *
  go_enter Try.func43, Try.ntmps43
  go_wp2_with fail
  refine (H1.out _).mono ?_; rintro e w1 ⟨rfl, hb1⟩
  go_wp2_with fail
  refine (H2.out _).mono ?_; rintro e w2 ⟨rfl, hb2⟩
  go_wp2_with fail
  refine (H3.out _).mono ?_; rintro e w3 ⟨rfl, hb3⟩
  go_wp2
  go_ret
  exact ⟨rfl, bl_tr (bl_tr hb1 hb2) hb3⟩
end Go.Proofs.Yteoionlnnjcggaa.od

/-
  What order.ByRatio answers of short lists of small numbers.
-/
namespace Go.Proofs.Yteoionlnnjcggaa.od
open Go.RowKit
set_option linter.unusedVariables false

/-- how ByRatio compares two items -/
def crat (v w : List Int) (x y : Int) : Int :=
  if nth w x.toNat = 0 ∨ nth w y.toNat = 0 then cmpv (nth w x.toNat) (nth w y.toNat) else cmpv (nth v y.toNat * nth w x.toNat) (nth v x.toNat * nth w y.toNat)
theorem crat_zero {v w : List Int} {x y : Int} (h : nth w x.toNat = 0 ∨ nth w y.toNat = 0) : crat v w x y = cmpv (nth w x.toNat) (nth w y.toNat) := by unfold crat; rw [if_pos h]
theorem crat_pos {v w : List Int} {x y : Int} (h : ¬ (nth w x.toNat = 0 ∨ nth w y.toNat = 0)) : crat v w x y = cmpv (nth v y.toNat * nth w x.toNat) (nth v x.toNat * nth w y.toNat) := by unfold crat; rw [if_neg h]
theorem cmpv_bd (a b : Int) : -1 ≤ cmpv a b ∧ cmpv a b ≤ 1 := by
  rcases (show a < b ∨ b < a ∨ a = b by omega) with h | h | h
  · rw [cmpv_lt h]; omega
  · rw [cmpv_gt h]; omega
  · rw [cmpv_eq h]; omega
theorem crat_bd (v w : List Int) (x y : Int) : -1 ≤ crat v w x y ∧ crat v w x y ≤ 1 := by
  unfold crat; split <;> exact cmpv_bd _ _
attribute [irreducible] crat
set_option maxRecDepth 100000 in
set_option maxHeartbeats 2000000 in
theorem clos26_any (v w : List Int) (hl : w.length = v.length) (hn : v.length ≤ 1000) (bw bv : Nat) (wa va : Option Addr) (wc vc : Nat) (W : World)
    (hbw : W.cell? ⟨bw, 0, none⟩ = some (.slice wa w.length wc)) (hbv : W.cell? ⟨bv, 0, none⟩ = some (.slice va v.length vc)) (lw : bw < W.heap.size) (lv : bv < W.heap.size) (h1 : Ints W wa w) (h2 : Ints W va v)
    (x y : Int) (x0 : 0 ≤ x) (x1 : x < v.length) (y0 : 0 ≤ y) (y1 : y < v.length)
    (hc : ¬ (nth w x.toNat = 0 ∨ nth w y.toNat = 0) → ∀ X, Calls Try.prog 43 #[.int .i64 (nth v y.toNat), .int .i64 (nth w x.toNat), .int .i64 (nth v x.toNat), .int .i64 (nth w y.toNat)] X fun e w' => e = .returned (.int .i64 (cmpv (nth v y.toNat * nth w x.toNat) (nth v x.toNat * nth w y.toNat))) ∧ Below X.heap.size X w') :
    Calls Try.prog 41 #[.int .i64 x, .int .i64 y, .pointer (some ⟨bw, 0, none⟩), .pointer (some ⟨bv, 0, none⟩)] W fun e w' => e = .returned (.int .i64 (crat v w x y)) ∧ Below W.heap.size W w' := by
  obtain ⟨b1, o1, rfl, l1, cwx⟩ := h1 x.toNat (by omega)
  obtain ⟨b1', o1', e1, _, cwy⟩ := h1 y.toNat (by omega)
  simp only [Option.some.injEq, Addr.mk.injEq, and_true] at e1
  obtain ⟨rfl, rfl⟩ := e1
  obtain ⟨b2, o2, rfl, l2, cvx⟩ := h2 x.toNat (by omega)
  obtain ⟨b2', o2', e2, _, cvy⟩ := h2 y.toNat (by omega)
  simp only [Option.some.injEq, Addr.mk.injEq, and_true] at e2
  obtain ⟨rfl, rfl⟩ := e2
  rw [hl] at hbw
  have HCM : Hid (∀ X, Calls Try.prog 42 #[.int .i64 (nth w x.toNat), .int .i64 (nth w y.toNat)] X fun e w' => e = .returned (.int .i64 (cmpv (nth w x.toNat) (nth w y.toNat))) ∧ w' = X) := fun X => (cmp_int (nth w x.toNat) (nth w y.toNat) X).mono fun _ _ h => ⟨h.1, h.2.symm⟩
  have HX := Lib.hid hc
  have HZ := Lib.hid (fun h => crat_zero (v := v) (w := w) (x := x) (y := y) h)
  have HP := Lib.hid (fun h => crat_pos (v := v) (w := w) (x := x) (y := y) h)
  clear h1 h2 hc hl
  generalize crat v w x y = r at *
  generalize v.length = n at *
  generalize nth w x.toNat = wx at *
  generalize nth w y.toNat = wy at *
  generalize nth v x.toNat = vx at *
  generalize nth v y.toNat = vy at *
  by_cases hwx : wx = 0
  · subst hwx
    rw [HZ.out (Or.inl rfl)]
    generalize cmpv 0 wy = r' at *
    clear HZ HP HX
    go_enter Try.func41, Try.ntmps41
    go_wp2
    go_quiet ((go_at_call 42; exact Calls.quiet_of_same (HCM.out _)))
    go_wp2
    go_ret
    exact ⟨rfl, bl_dn (Below.refl _ _) _⟩
  · by_cases hwy : wy = 0
    · subst hwy
      rw [HZ.out (Or.inr rfl)]
      have e0 : (wx == 0) = false := by simpa using hwx
      generalize cmpv wx 0 = r' at *
      clear HZ HP HX hwx
      go_enter Try.func41, Try.ntmps41
      go_wp2
      go_quiet ((go_at_call 42; exact Calls.quiet_of_same (HCM.out _)))
      go_wp2
      go_ret
      exact ⟨rfl, bl_dn (Below.refl _ _) _⟩
    · have hh : ¬ (wx = 0 ∨ wy = 0) := fun h => by rcases h with h | h; exact hwx h; exact hwy h
      rw [HP.out hh]
      have HX2 := Lib.hid (HX.out hh)
      have e0 : (wx == 0) = false := by simpa using hwx
      have e1 : (wy == 0) = false := by simpa using hwy
      generalize cmpv (vy * wx) (vx * wy) = r' at *
      clear HZ HP HX hwx hwy hh
      go_enter Try.func41, Try.ntmps41
      go_wp2
      go_region_held3 (fun w' => w'.cell? ⟨bw, 0, none⟩ = some (.slice (some ⟨b1, o1, none⟩) n wc) ∧ w'.cell? ⟨bv, 0, none⟩ = some (.slice (some ⟨b2, o2, none⟩) n vc) ∧ w'.cell? ⟨b1, o1 + x.toNat, none⟩ = some (.int .i64 wx) ∧ w'.cell? ⟨b1, o1 + y.toNat, none⟩ = some (.int .i64 wy) ∧ w'.cell? ⟨b2, o2 + x.toNat, none⟩ = some (.int .i64 vx) ∧ w'.cell? ⟨b2, o2 + y.toNat, none⟩ = some (.int .i64 vy))
        (first | exact ⟨hbw, hbv, cwx, cwy, cvx, cvy⟩ | exact K1.out)
        (first
          | (go_at_call 43; refine (HX2.out _).mono ?_; rintro e x1 ⟨rfl, hb1⟩; have hb1 := bl_undr hb1; have K1 := Lib.hid (And.intro ((hb1.cell (p := ⟨bw, 0, none⟩) lw).trans hbw) (And.intro ((hb1.cell (p := ⟨bv, 0, none⟩) lv).trans hbv) (And.intro ((hb1.cell (p := ⟨b1, o1 + x.toNat, none⟩) l1).trans cwx) (And.intro ((hb1.cell (p := ⟨b1, o1 + y.toNat, none⟩) l1).trans cwy) (And.intro ((hb1.cell (p := ⟨b2, o2 + x.toNat, none⟩) l2).trans cvx) ((hb1.cell (p := ⟨b2, o2 + y.toNat, none⟩) l2).trans cvy)))))); have HB1 := Lib.hid hb1; clear hb1))
      all_goals go_wp2
      all_goals
        go_ret
        exact ⟨rfl, HB1.out⟩
end Go.Proofs.Yteoionlnnjcggaa.od

/-
  What slices.Clone and slices.Reverse leave.
-/
namespace Go.Proofs.Yteoionlnnjcggaa.od
open Go.RowKit
set_option linter.unusedVariables false

theorem Own.cap {B g n cap : Nat} {l : List Int} {w0 wr : World} (h : Own B g n cap l w0 wr) : n ≤ cap ∧ cap ≤ 9223372036854775807 := by
  rcases h.2.2.1.2 with ⟨h', _⟩ | ⟨g', cap', cur, h', _, hg, h1, h2, _⟩
  · cases h'
  · injection h' with _ _ h'
    subst h'
    exact ⟨h1, by unfold maxLen at h2; exact h2⟩
theorem own_form {w : World} {base : Nat} {e : TypeId} {v : Value} {n : Nat} {xs : List Value} (h : w.ownsRow base e 1 v n xs) (hne : ¬ v = .slice none 0 0) : ∃ g cap, v = .slice (some ⟨g, 0, none⟩) n cap := by
  rcases h.2 with ⟨h', _⟩ | ⟨g, cap, cur, hv, _⟩
  · exact absurd h' hne
  · exact ⟨g, cap, hv⟩
theorem own0 (w : World) : (w.alloc (.cells #[] 3)).ownsRow w.heap.size 3 1 (.slice (some ⟨w.heap.size, 0, none⟩) 0 0) 0 [] := World.ownsRow_lit w #[] 0 (Nat.le_refl _) (by decide) (by decide)
theorem app_src {X : World} {b o : Nat} {l : List Int} (hb : b < X.heap.size) (hc : ∀ j, j < l.length → X.cell? ⟨b, o + j, none⟩ = some (.int .i64 (nth l j))) : ∀ j u, (l.map (Value.int .i64))[j]? = some u → (X.alloc (.cells #[] 3)).cell? ((⟨b, o, none⟩ : Addr).add j) = some u := fun j u hj => by
  rw [List.getElem?_map] at hj
  have hlt : j < l.length := by
    rcases Nat.lt_or_ge j l.length with h | h
    · exact h
    · rw [List.getElem?_eq_none h] at hj; cases hj
  have h := (((Below.refl _ X).alloc (Nat.le_refl _) (.cells #[] 3)).cell (p := ⟨b, o + j, none⟩) hb).trans (hc j hlt)
  rw [nth_at l j hlt] at h
  rw [List.getElem?_eq_getElem hlt] at hj
  simp at hj
  rw [← hj]
  have e : (⟨b, o, none⟩ : Addr).add j = ⟨b, o + j, none⟩ := by
    unfold Addr.add
    split <;> simp_all
  rw [e]
  exact h
theorem own_of {w w1 : World} {g cap : Nat} {l : List Int} (hown : w1.ownsRow w.heap.size 3 1 (.slice (some ⟨g, 0, none⟩) l.length cap) l.length (l.map (Value.int .i64))) (hb : Below w.heap.size w w1) : Own w.heap.size g l.length cap l w w1 :=
  ⟨rfl, (hown.lt g rfl).1, hown, hb⟩
def sw (l : List Int) (i j : Nat) : List Int := (l.set i (nth l j)).set j (nth l i)
theorem sw_len (l : List Int) (i j : Nat) : (sw l i j).length = l.length := by unfold sw; simp
theorem Own.sw {B g n cap : Nat} {l : List Int} {w0 wr : World} (h : Own B g n cap l w0 wr) (i j : Nat) : Own B g n cap (sw l i j) w0 ((wr.setCell ⟨g, i, none⟩ (.int .i64 (nth l j))).setCell ⟨g, j, none⟩ (.int .i64 (nth l i))) :=
  (h.set i (nth l j)).set j (nth l i)
attribute [irreducible] sw
/-- the numbers from k on, m of them, turned round: t exchanges -/
def rv (l : List Int) (k m : Nat) : Nat → List Int
  | 0 => l
  | t + 1 => sw (rv l k m t) (k + t) (k + (m - 1 - t))
theorem rv_zero (l : List Int) (k m : Nat) : rv l k m 0 = l := rfl
theorem rv_succ (l : List Int) (k m t : Nat) : rv l k m (t + 1) = sw (rv l k m t) (k + t) (k + (m - 1 - t)) := rfl
theorem rv_len (l : List Int) (k m : Nat) : ∀ t, (rv l k m t).length = l.length
  | 0 => rfl
  | t + 1 => by rw [rv_succ, sw_len, rv_len l k m t]
attribute [irreducible] rv
end Go.Proofs.Yteoionlnnjcggaa.od

/-
  slices.swapRangeCmpFunc, of a list in a block of its own.
-/
namespace Go.Proofs.Yteoionlnnjcggaa.od
open Go.RowKit
set_option linter.unusedVariables false
/-- m numbers from a on change places with those from b on: t of them -/
def sr (l : List Int) (a b : Nat) : Nat → List Int
  | 0 => l
  | t + 1 => sw (sr l a b t) (a + t) (b + t)
theorem sr_zero (l : List Int) (a b : Nat) : sr l a b 0 = l := rfl
theorem sr_succ (l : List Int) (a b t : Nat) : sr l a b (t + 1) = sw (sr l a b t) (a + t) (b + t) := rfl
theorem sr_len (l : List Int) (a b : Nat) : ∀ t, (sr l a b t).length = l.length
  | 0 => rfl
  | t + 1 => by rw [sr_succ, sw_len, sr_len l a b t]
attribute [irreducible] sr
set_option maxRecDepth 100000 in
set_option maxHeartbeats 4000000 in
theorem swapRange_any (B g n cap : Nat) (l : List Int) (w0 : World) (a b m c : Nat) (ha : a + m ≤ b) (hb : b + m ≤ n) (hn : n ≤ 1000) (hc : n ≤ c) (v : Value) (w : World) (ho : Own B g n cap l w0 w) :
    Calls Try.prog 78 #[.slice (some ⟨g, 0, none⟩) n c, .int .i64 a, .int .i64 b, .int .i64 m, v] w fun e w' => e = .returned (.tuple #[]) ∧ Own B g n cap (sr l a b m) w0 w' := by
  have HO := Lib.hid ho
  have H0 := Lib.hid (sr_zero l a b)
  have HS := Lib.hid (sr_succ l a b)
  clear ho
  have HO0 : Hid (Own B g n cap (sr l a b 0) w0 w) := by show Own _ _ _ _ _ _ _; rw [H0.out]; exact HO.out
  clear HO H0
  go_enter Try.func78, Try.ntmps78
  go_wp2
  go_loopw [10] (fun i wr => ∃ t : Nat, t ≤ m ∧ i = .int .i64 t ∧ Hid (Own B g n cap (sr l a b t) w0 wr)) (fun i _ => m - (intOf i).toNat)
  case atStart => exact ⟨0, by omega, rfl, HO0⟩
  case round =>
    clear HO0
    obtain ⟨t, ht, rfl, HP⟩ := hrel
    by_cases hlt : t < m
    · have e1 := HP.out.cell (a + t) (by omega)
      have e2 := HP.out.cell (b + t) (by omega)
      have f1 := HP.out.frozen (a + t)
      have f2 := HP.out.frozen (b + t)
      have HN : Hid (∀ W, Own B g n cap (sr l a b t) w0 W → Own B g n cap (sr l a b (t + 1)) w0 ((W.setCell ⟨g, a + t, none⟩ (.int .i64 (nth (sr l a b t) (b + t)))).setCell ⟨g, b + t, none⟩ (.int .i64 (nth (sr l a b t) (a + t))))) := fun W h => by
        rw [HS.out t]; exact h.sw (a + t) (b + t)
      have g1 : (0 : Int) ≤ (a : Int) + (t : Int) := by omega
      have g2 : (a : Int) + (t : Int) < (n : Int) := by omega
      have g3 : (0 : Int) ≤ (b : Int) + (t : Int) := by omega
      have g4 : (b : Int) + (t : Int) < (n : Int) := by omega
      have g6 : a + t ≠ b + t := by omega
      have g7 : ((a : Int) + (t : Int)).toNat = a + t := by omega
      have g8 : ((b : Int) + (t : Int)).toNat = b + t := by omega
      generalize nth (sr l a b t) (b + t) = y at *
      generalize nth (sr l a b t) (a + t) = x at *
      go_wp2
      go_region
      all_goals
        go_wp2
        go_roundw
        case rel => exact ⟨t + 1, by omega, by go_num, (HN.out _ HP.out).keep (bl_drew _)⟩
        case measure => simp [intOf]; omega
    · obtain rfl : t = m := by omega
      go_wp2
      go_end0
      exact ⟨rfl, HP.out⟩
end Go.Proofs.Yteoionlnnjcggaa.od

/-
  What order.Next answers.
-/
namespace Go.Proofs.Yteoionlnnjcggaa.od
open Go.RowKit
set_option linter.unusedVariables false

/-- one more than the last place from m - 1 down that isn't greater than the one behind it -/
def dn (p : List Int) : Nat → Nat
  | 0 => 0
  | m + 1 => if nth p (m + 1) < nth p m then dn p m else m + 1
theorem dn_zero (p : List Int) : dn p 0 = 0 := rfl
theorem dn_yes (p : List Int) (m : Nat) (h : nth p (m + 1) < nth p m) : dn p (m + 1) = dn p m := by simp only [dn]; rw [if_pos h]
theorem dn_no (p : List Int) (m : Nat) (h : ¬ nth p (m + 1) < nth p m) : dn p (m + 1) = m + 1 := by simp only [dn]; rw [if_neg h]
theorem dn_le (p : List Int) : ∀ m, dn p m ≤ m
  | 0 => Nat.le_refl _
  | m + 1 => by
    by_cases h : nth p (m + 1) < nth p m
    · rw [dn_yes p m h]; have := dn_le p m; omega
    · rw [dn_no p m h]; omega
/-- the first place from j on, behind k, that is greater than x -/
def fj (l : List Int) (k : Nat) (x : Int) : Nat → Nat → Nat
  | 0, j => j
  | f + 1, j => if x < nth l (k + j) then j else fj l k x f (j + 1)
theorem fj_zero (l : List Int) (k : Nat) (x : Int) (j : Nat) : fj l k x 0 j = j := rfl
theorem fj_yes (l : List Int) (k : Nat) (x : Int) (f j : Nat) (h : x < nth l (k + j)) : fj l k x (f + 1) j = j := by simp only [fj]; rw [if_pos h]
theorem fj_no (l : List Int) (k : Nat) (x : Int) (f j : Nat) (h : ¬ x < nth l (k + j)) : fj l k x (f + 1) j = fj l k x f (j + 1) := by simp only [fj]; rw [if_neg h]
attribute [irreducible] dn fj
/-- the order that comes next: k is one more than the place that grows -/
def nextA (p : List Int) (k : Nat) : List Int := rv p k (p.length - k) ((p.length - k) / 2)
def nextJ (p : List Int) (k : Nat) : Nat := fj (nextA p k) k (nth (nextA p k) (k - 1)) (p.length - k) 0
def nextB (p : List Int) (k : Nat) : List Int := if nextJ p k < p.length - k then sw (nextA p k) (k - 1) (k + nextJ p k) else nextA p k
def NextP (p : List Int) (k : Nat) (w : World) (e : Ending) (w' : World) : Prop := ∃ g cap, e = .returned (.tuple #[.slice (some ⟨g, 0, none⟩) p.length cap, .int .i64 0]) ∧ Below w.heap.size w w' ∧ Ints w' (some ⟨g, 0, none⟩) (nextB p k) ∧ (nextB p k).length = p.length
theorem nextA_len (p : List Int) (k : Nat) : (nextA p k).length = p.length := by unfold nextA; rw [rv_len]
theorem next_done {p : List Int} {k B g cap : Nat} {w W w1 w2 : World} {l : List Int} (h : Own B g p.length cap l W w2) (hl : l = nextB p k) (hb : Below w.heap.size w w2) : NextP p k w (.returned (.tuple #[.slice (some ⟨g, 0, none⟩) p.length cap, .int .i64 0])) w2 := by
  subst hl
  exact ⟨g, cap, rfl, hb, h.ints, h.1⟩
end Go.Proofs.Yteoionlnnjcggaa.od

/-
  What order.Rank answers.
-/
namespace Go.Proofs.Yteoionlnnjcggaa.od
open Go.RowKit
set_option linter.unusedVariables false

/-- how many of the m numbers behind place k are less than that at k -/
def lsc (p : List Int) (k : Nat) : Nat → Int
  | 0 => 0
  | m + 1 => lsc p k m + (if nth p (k + 1 + m) < nth p k then 1 else 0)
def rk (p : List Int) (n : Nat) : Nat → Int
  | 0 => 0
  | k + 1 => rk p n k * ((n : Int) - k) + lsc p k (n - (k + 1))
def ff (n : Nat) : Nat → Int
  | 0 => 1
  | k + 1 => ff n k * ((n : Int) - k)
theorem lsc_zero (p : List Int) (k : Nat) : lsc p k 0 = 0 := rfl
theorem lsc_yes (p : List Int) (k m : Nat) (h : nth p (k + 1 + m) < nth p k) : lsc p k (m + 1) = lsc p k m + 1 := by simp only [lsc]; rw [if_pos h]
theorem lsc_no (p : List Int) (k m : Nat) (h : ¬ nth p (k + 1 + m) < nth p k) : lsc p k (m + 1) = lsc p k m := by simp only [lsc]; rw [if_neg h, Int.add_zero]
theorem lsc_bd (p : List Int) (k : Nat) : ∀ m, 0 ≤ lsc p k m ∧ lsc p k m ≤ m
  | 0 => by rw [lsc_zero]; omega
  | m + 1 => by
    have := lsc_bd p k m
    by_cases h : nth p (k + 1 + m) < nth p k
    · rw [lsc_yes p k m h]; omega
    · rw [lsc_no p k m h]; omega
theorem rk_zero (p : List Int) (n : Nat) : rk p n 0 = 0 := rfl
theorem rk_succ (p : List Int) (n k : Nat) : rk p n (k + 1) = rk p n k * ((n : Int) - k) + lsc p k (n - (k + 1)) := rfl
theorem rk_bd (p : List Int) (n : Nat) : ∀ k, k ≤ n → 0 ≤ rk p n k ∧ rk p n k + 1 ≤ ff n k
  | 0, _ => by rw [rk_zero]; exact ⟨by omega, by show (0 : Int) + 1 ≤ 1; omega⟩
  | k + 1, hk => by
    obtain ⟨h1, h2⟩ := rk_bd p n k (by omega)
    have l := lsc_bd p k (n - (k + 1))
    have m1 := Int.mul_nonneg h1 (show 0 ≤ (n : Int) - k by omega)
    have m2 := Int.mul_le_mul_of_nonneg_right h2 (show 0 ≤ (n : Int) - k by omega)
    rw [Int.add_mul, Int.one_mul] at m2
    rw [rk_succ]
    refine ⟨by omega, ?_⟩
    show _ ≤ ff n k * ((n : Int) - k)
    omega
theorem ff_le : ∀ n, n < 21 → ∀ k, k < 21 → k ≤ n → ff n k ≤ 2432902008176640000 := by decide +kernel
theorem rk_all (p : List Int) (n k : Nat) (hn : n ≤ 20) (hk : k < n) : 0 ≤ rk p n k * ((n : Int) - k) ∧ rk p n k * ((n : Int) - k) ≤ 2432902008176640000 ∧ 0 ≤ rk p n k ∧ rk p n k ≤ 2432902008176640000 := by
  have a := rk_bd p n k (by omega)
  have b := rk_bd p n (k + 1) (by omega)
  have c := ff_le n (by omega) (k + 1) (by omega) (by omega)
  have d := ff_le n (by omega) k (by omega) (by omega)
  have l := lsc_bd p k (n - (k + 1))
  have m1 := Int.mul_nonneg a.1 (show 0 ≤ (n : Int) - k by omega)
  rw [rk_succ] at b
  exact ⟨m1, by omega, a.1, by omega⟩
attribute [irreducible] lsc rk ff
open Classical in
/-- what Rank answers -/
noncomputable def rankR (p : List Int) : Int × Int := if ¬ isP p then (0, 1) else if 20 < p.length then (0, 5) else (rk p p.length p.length, 0)
theorem rank_bad {p : List Int} (h : ¬ isP p) : rankR p = (0, 1) := by unfold rankR; rw [if_pos h]
theorem rank_big {p : List Int} (h : isP p) (h2 : 20 < p.length) : rankR p = (0, 5) := by unfold rankR; rw [if_neg (by simp [h]), if_pos h2]
theorem rank_ok {p : List Int} (h : isP p) (h2 : ¬ 20 < p.length) : rankR p = (rk p p.length p.length, 0) := by unfold rankR; rw [if_neg (by simp [h]), if_neg h2]
attribute [irreducible] rankR
end Go.Proofs.Yteoionlnnjcggaa.od

/-
  The order that comes next has one more ahead of it: plain mathematics.
-/
namespace Go.Proofs.Yteoionlnnjcggaa.od
set_option linter.unusedVariables false

/-- how many of a list are less than v -/
def cl (v : Int) (l : List Int) : Int := (l.countP fun x => decide (x < v) : Nat)
theorem cl_nil (v : Int) : cl v [] = 0 := rfl
theorem cl_snoc (v x : Int) (l : List Int) : cl v (l ++ [x]) = cl v l + if x < v then 1 else 0 := by
  unfold cl
  rw [List.countP_append]
  by_cases h : x < v
  · rw [if_pos h]; simp [h]
  · rw [if_neg h]; simp [h]
theorem cl_perm {v : Int} {l m : List Int} (h : l.Perm m) : cl v l = cl v m := by unfold cl; rw [h.countP_eq]
theorem lsc_take (p : List Int) (k : Nat) : ∀ m, k + 1 + m ≤ p.length → lsc p k m = cl (nth p k) ((p.drop (k + 1)).take m)
  | 0, _ => by rw [lsc_zero]; simp [cl_nil]
  | m + 1, h => by
    have hd : m < (p.drop (k + 1)).length := by simp; omega
    have he : (p.drop (k + 1))[m] = nth p (k + 1 + m) := by rw [List.getElem_drop, nth_at p (k + 1 + m) (by omega)]
    rw [List.take_succ_eq_append_getElem hd, cl_snoc, ← lsc_take p k m (by omega), he]
    by_cases hx : nth p (k + 1 + m) < nth p k
    · rw [lsc_yes p k m hx, if_pos hx]
    · rw [lsc_no p k m hx, if_neg hx]; omega
theorem lsc_all (p : List Int) (k : Nat) (hk : k < p.length) : lsc p k (p.length - (k + 1)) = cl (nth p k) (p.drop (k + 1)) := by
  rw [lsc_take p k _ (by omega), List.take_of_length_le (by simp)]
/-- all later ones are less, none is -/
theorem lsc_full (p : List Int) (k : Nat) : ∀ m, (∀ i, i < m → nth p (k + 1 + i) < nth p k) → lsc p k m = m
  | 0, _ => by rw [lsc_zero]; rfl
  | m + 1, h => by rw [lsc_yes p k m (h m (by omega)), lsc_full p k m (fun i hi => h i (by omega))]; omega
theorem lsc_none (p : List Int) (k : Nat) : ∀ m, (∀ i, i < m → ¬ nth p (k + 1 + i) < nth p k) → lsc p k m = 0
  | 0, _ => lsc_zero p k
  | m + 1, h => by rw [lsc_no p k m (h m (by omega)), lsc_none p k m (fun i hi => h i (by omega))]
/-- what dn tells -/
theorem dn_desc (p : List Int) : ∀ m j, dn p m ≤ j → j < m → nth p (j + 1) < nth p j
  | 0, j, _, h => absurd h (by omega)
  | m + 1, j, h1, h2 => by
    by_cases hx : nth p (m + 1) < nth p m
    · rw [dn_yes p m hx] at h1
      by_cases hj : j = m
      · subst hj; exact hx
      · exact dn_desc p m j h1 (by omega)
    · rw [dn_no p m hx] at h1; omega
theorem dn_top (p : List Int) : ∀ m, 0 < dn p m → ¬ nth p (dn p m) < nth p (dn p m - 1)
  | 0, h => by rw [dn_zero] at h; omega
  | m + 1, h => by
    by_cases hx : nth p (m + 1) < nth p m
    · rw [dn_yes p m hx] at *; exact dn_top p m h
    · rw [dn_no p m hx]; simpa using hx
theorem desc_far (p : List Int) (k n : Nat) (h : ∀ j, k ≤ j → j + 1 < n → nth p (j + 1) < nth p j) : ∀ d j, k ≤ j → j + d + 1 < n → nth p (j + d + 1) < nth p j
  | 0, j, h1, h2 => h j h1 h2
  | d + 1, j, h1, h2 => by
    have a := desc_far p k n h d j h1 (by omega)
    have b := h (j + d + 1) (by omega) (by omega)
    have e : j + (d + 1) + 1 = j + d + 1 + 1 := by omega
    rw [e]; omega
theorem desc_lt (p : List Int) (k n : Nat) (h : ∀ j, k ≤ j → j + 1 < n → nth p (j + 1) < nth p j) (i j : Nat) (h1 : k ≤ i) (h2 : i < j) (h3 : j < n) : nth p j < nth p i := by
  have := desc_far p k n h (j - i - 1) i h1 (by omega)
  rwa [show i + (j - i - 1) + 1 = j by omega] at this
/-! exchanges -/
theorem sw_nth (l : List Int) (i j a : Nat) (hi : i < l.length) (hj : j < l.length) : nth (sw l i j) a = if a = j then nth l i else if a = i then nth l j else nth l a := by
  unfold sw
  rw [nth_set _ _ _ _ (by simpa using hj), nth_set _ _ _ _ hi]
  simp only [eq_comm (a := a)]
theorem rv_nth (l : List Int) (k m : Nat) (hm : k + m ≤ l.length) : ∀ t, t ≤ m / 2 → ∀ a, nth (rv l k m t) a = if (k ≤ a ∧ a < k + t) ∨ (k + m - t ≤ a ∧ a < k + m) then nth l (k + (k + m) - 1 - a) else nth l a
  | 0, _, a => by
    rw [rv_zero, if_neg (by omega)]
  | t + 1, ht, a => by
    have ih := rv_nth l k m hm t (by omega)
    rw [rv_succ, sw_nth _ _ _ _ (by rw [rv_len]; omega) (by rw [rv_len]; omega)]
    by_cases h1 : a = k + (m - 1 - t)
    · rw [if_pos h1, ih (k + t), if_neg (by omega), if_pos (by omega)]
      congr 1; omega
    · rw [if_neg h1]
      by_cases h2 : a = k + t
      · rw [if_pos h2, ih (k + (m - 1 - t)), if_neg (by omega), if_pos (by omega)]
        congr 1; omega
      · rw [if_neg h2, ih a]
        by_cases h3 : (k ≤ a ∧ a < k + t) ∨ (k + m - t ≤ a ∧ a < k + m)
        · rw [if_pos h3, if_pos (by omega)]
        · rw [if_neg h3, if_neg (by omega)]
theorem rv_all (l : List Int) (k m : Nat) (hm : k + m ≤ l.length) (a : Nat) : nth (rv l k m (m / 2)) a = if k ≤ a ∧ a < k + m then nth l (k + (k + m) - 1 - a) else nth l a := by
  rw [rv_nth l k m hm (m / 2) (Nat.le_refl _) a]
  by_cases h : k ≤ a ∧ a < k + m
  · rw [if_pos h]
    by_cases h2 : (k ≤ a ∧ a < k + m / 2) ∨ (k + m - m / 2 ≤ a ∧ a < k + m)
    · rw [if_pos h2]
    · rw [if_neg h2]
      congr 1; omega
  · rw [if_neg h, if_neg (by omega)]
end Go.Proofs.Yteoionlnnjcggaa.od

/-
  slices.rotateCmpFunc, of a list in a block of its own.
-/
namespace Go.Proofs.Yteoionlnnjcggaa.od
open Go.RowKit
set_option linter.unusedVariables false
theorem sr_nth (l : List Int) (a b m : Nat) (ha : a + m ≤ b) (hb : b + m ≤ l.length) : ∀ t, t ≤ m → ∀ x, nth (sr l a b t) x = if a ≤ x ∧ x < a + t then nth l (x + (b - a)) else if b ≤ x ∧ x < b + t then nth l (x - (b - a)) else nth l x
  | 0, _, x => by rw [sr_zero, if_neg (by omega), if_neg (by omega)]
  | t + 1, ht, x => by
    have ih := sr_nth l a b m ha hb t (by omega)
    rw [sr_succ, sw_nth _ _ _ _ (by rw [sr_len]; omega) (by rw [sr_len]; omega)]
    by_cases h1 : x = b + t
    · rw [if_pos h1, ih (a + t), if_neg (by omega), if_neg (by omega), if_neg (by omega), if_pos (by omega)]
      congr 1; omega
    · rw [if_neg h1]
      by_cases h2 : x = a + t
      · rw [if_pos h2, ih (b + t), if_neg (by omega), if_neg (by omega), if_pos (by omega)]
        congr 1; omega
      · rw [if_neg h2, ih x]
        repeat' split
        all_goals first | (exfalso; omega) | rfl
/-- T is l, the i numbers ahead of m and the j from m on changed round -/
def RotM (T l : List Int) (m i j : Nat) : Prop := ∀ x, nth T x = if m - i ≤ x ∧ x < m - i + j then nth l (x + i) else if m - i + j ≤ x ∧ x < m + j then nth l (x - j) else nth l x
theorem rot_gt {T l : List Int} {m i j : Nat} (hi : i ≤ m) (hij : j < i) (hl : m + j ≤ l.length) (h : RotM T (sr l (m - i) m j) m (i - j) j) : RotM T l m i j := fun x => by
  have s := fun y => sr_nth l (m - i) m j (by omega) (by omega) j (Nat.le_refl _) y
  rw [h x, s, s, s]
  repeat' split
  all_goals first | (exfalso; omega) | (congr 1; omega) | rfl
theorem rot_lt {T l : List Int} {m i j : Nat} (hi : i ≤ m) (hij : i < j) (hl : m + j ≤ l.length) (h : RotM T (sr l (m - i) (m + j - i) i) m i (j - i)) : RotM T l m i j := fun x => by
  have s := fun y => sr_nth l (m - i) (m + j - i) i (by omega) (by omega) i (Nat.le_refl _) y
  rw [h x, s, s, s]
  repeat' split
  all_goals first | (exfalso; omega) | (congr 1; omega) | rfl
theorem rot_eq {l : List Int} {m i : Nat} (hi : i ≤ m) (hl : m + i ≤ l.length) : RotM (sr l (m - i) m i) l m i i := fun x => by
  rw [sr_nth l (m - i) m i (by omega) (by omega) i (Nat.le_refl _) x]
  repeat' split
  all_goals first | (exfalso; omega) | (congr 1; omega) | rfl
attribute [irreducible] RotM
set_option maxRecDepth 100000 in
set_option maxHeartbeats 4000000 in
theorem rotate_any (B g n cap : Nat) (l : List Int) (w0 : World) (a m b c : Nat) (ha : a < m) (hmb : m < b) (hb : b ≤ n) (hn : n ≤ 1000) (hc : n ≤ c) (v : Value) (w : World) (ho : Own B g n cap l w0 w) :
    Calls Try.prog 74 #[.slice (some ⟨g, 0, none⟩) n c, .int .i64 a, .int .i64 m, .int .i64 b, v] w fun e w' => e = .returned (.tuple #[]) ∧ ∃ T, RotM T l m (m - a) (b - m) ∧ Own B g n cap T w0 w' := by
  have HO : Hid (Own B g n cap l w0 w) := ho
  have hln := ho.1
  clear ho
  have g1 : (m : Int) - (a : Int) = ((m - a : Nat) : Int) := by omega
  have g2 : (b : Int) - (m : Int) = ((b - m : Nat) : Int) := by omega
  have HS := Lib.hid (fun (l' : List Int) (x y k : Nat) (h1 : x + k ≤ y) (h2 : y + k ≤ n) (W : World) (hO : Own B g n cap l' w0 W) => swapRange_any B g n cap l' w0 x y k c h1 h2 hn hc v W hO)
  have HG := Lib.hid (fun (T l' : List Int) (i j : Nat) (h1 : i ≤ m) (h2 : j < i) (h3 : m + j ≤ l'.length) => rot_gt (T := T) (l := l') (m := m) h1 h2 h3)
  have HL := Lib.hid (fun (T l' : List Int) (i j : Nat) (h1 : i ≤ m) (h2 : i < j) (h3 : m + j ≤ l'.length) => rot_lt (T := T) (l := l') (m := m) h1 h2 h3)
  have HQ := Lib.hid (fun (l' : List Int) (i : Nat) (h1 : i ≤ m) (h3 : m + i ≤ l'.length) => rot_eq (l := l') (m := m) h1 h3)
  go_enter Try.func74, Try.ntmps74
  go_wp2
  go_loopw [10, 11] (fun x y wr => ∃ (i j : Nat) (cur : List Int), 1 ≤ i ∧ 1 ≤ j ∧ i ≤ m - a ∧ j ≤ b - m ∧ x = .int .i64 i ∧ y = .int .i64 j ∧ Hid (Own B g n cap cur w0 wr) ∧ Hid (∀ T, RotM T cur m i j → RotM T l m (m - a) (b - m))) (fun x y _ => (intOf x).toNat + (intOf y).toNat)
  case atStart => exact ⟨m - a, b - m, l, by omega, by omega, by omega, by omega, rfl, rfl, HO, fun T h => h⟩
  case round =>
    clear HO g1 g2
    obtain ⟨i, j, cur, hi1, hj1, hi, hj, rfl, rfl, HO, HT⟩ := hrel
    have hcl := HO.out.1
    have s1 : (m : Int) - (i : Int) = ((m - i : Nat) : Int) := by omega
    rcases Nat.lt_trichotomy j i with hlt | heq | hgt
    · have hne : ((i : Int) != (j : Int)) = true := by simp; omega
      have q1 : (j : Int) < (i : Int) := by omega
      have s2 : (i : Int) - (j : Int) = ((i - j : Nat) : Int) := by omega
      have HT2 : Hid (∀ T, RotM T (sr cur (m - i) m j) m (i - j) j → RotM T l m (m - a) (b - m)) := fun T h => HT.out T (HG.out T cur i j (by omega) hlt (by omega) h)
      have hm := Lib.hid (show (i - j) + j < i + j by omega)
      go_wp2_with fail
      refine (HS.out cur (m - i) m j (by omega) (by omega) wr HO.out).mono ?_; rintro e w2 ⟨rfl, hO2⟩
      have HO2 := Lib.hid hO2
      clear hO2 HO HT
      go_wp2
      go_roundw
      case rel => exact ⟨i - j, j, _, by omega, hj1, by omega, hj, rfl, rfl, HO2, HT2⟩
      case measure => simp [intOf]; omega
    · subst heq
      have hne : ((j : Int) != (j : Int)) = false := by simp
      go_wp2_with fail
      refine (HS.out cur (m - j) m j (by omega) (by omega) wr HO.out).mono ?_; rintro e w2 ⟨rfl, hO2⟩
      have HO2 := Lib.hid hO2
      clear hO2
      go_wp2
      go_end0
      exact ⟨rfl, _, HT.out _ (HQ.out cur j (by omega) (by omega)), HO2.out⟩
    · have hne : ((i : Int) != (j : Int)) = true := by simp; omega
      have q1 : ¬ (j : Int) < (i : Int) := by omega
      have s2 : (j : Int) - (i : Int) = ((j - i : Nat) : Int) := by omega
      have s3 : (m : Int) + (j : Int) - (i : Int) = ((m + j - i : Nat) : Int) := by omega
      have HT2 : Hid (∀ T, RotM T (sr cur (m - i) (m + j - i) i) m i (j - i) → RotM T l m (m - a) (b - m)) := fun T h => HT.out T (HL.out T cur i j (by omega) hgt (by omega) h)
      go_wp2_with fail
      refine (HS.out cur (m - i) (m + j - i) i (by omega) (by omega) wr HO.out).mono ?_; rintro e w2 ⟨rfl, hO2⟩
      have HO2 := Lib.hid hO2
      clear hO2 HO HT
      go_wp2
      go_roundw
      case rel => exact ⟨i, j - i, _, hi1, by omega, hi, by omega, rfl, rfl, HO2, HT2⟩
      case measure => simp [intOf]; omega
end Go.Proofs.Yteoionlnnjcggaa.od

/-
  What slices.symMergeCmpFunc does to a list, told by places.
-/
namespace Go.Proofs.Yteoionlnnjcggaa.od
open Go.RowKit
set_option linter.unusedVariables false
theorem rotM_at {T l : List Int} {m i j : Nat} (h : RotM T l m i j) (x : Nat) : nth T x = if m - i ≤ x ∧ x < m - i + j then nth l (x + i) else if m - i + j ≤ x ∧ x < m + j then nth l (x - j) else nth l x := by
  unfold RotM at h; exact h x
theorem rotM_of {T l : List Int} {m i j : Nat} (h : ∀ x, nth T x = if m - i ≤ x ∧ x < m - i + j then nth l (x + i) else if m - i + j ≤ x ∧ x < m + j then nth l (x - j) else nth l x) : RotM T l m i j := by
  unfold RotM; exact h
/-- ranks rise from a up to b -/
def Up (K : Int → Int) (l : List Int) (a b : Nat) : Prop := ∀ x y, a ≤ x → x < y → y < b → K (nth l x) < K (nth l y)
/-- what stands ahead of m is less than what stands from m on -/
def Lows (l : List Int) (a m b : Nat) : Prop := ∀ x y, a ≤ x → x < m → m ≤ y → y < b → nth l x < nth l y
/-- from a up to b the same numbers stand, elsewhere nothing has changed -/
def Sm (T l : List Int) (a b : Nat) : Prop :=
  (∀ x, ¬ (a ≤ x ∧ x < b) → nth T x = nth l x) ∧ (∀ x, a ≤ x → x < b → ∃ y, a ≤ y ∧ y < b ∧ nth T x = nth l y) ∧ (∀ y, a ≤ y → y < b → ∃ x, a ≤ x ∧ x < b ∧ nth T x = nth l y)
theorem Up.le {K : Int → Int} {l : List Int} {a b x y : Nat} (h : Up K l a b) (h1 : a ≤ x) (h2 : x ≤ y) (h3 : y < b) : K (nth l x) ≤ K (nth l y) := by
  rcases Nat.lt_or_ge x y with q | q
  · exact Int.le_of_lt (h x y h1 q h3)
  · obtain rfl : x = y := by omega
    exact Int.le_refl _
theorem Up.sub {K : Int → Int} {l : List Int} {a b a' b' : Nat} (h : Up K l a b) (h1 : a ≤ a') (h2 : b' ≤ b) : Up K l a' b' := fun x y p q r => h x y (by omega) q (by omega)
theorem Up.congr {K : Int → Int} {l T : List Int} {a b : Nat} (h : Up K l a b) (e : ∀ x, a ≤ x → x < b → nth T x = nth l x) : Up K T a b := fun x y p q r => by
  rw [e x (by omega) (by omega), e y (by omega) (by omega)]; exact h x y p q r
theorem Up.short {K : Int → Int} {l : List Int} {a b : Nat} (h : b ≤ a + 1) : Up K l a b := fun x y p q r => by omega
theorem Sm.refl (l : List Int) (a b : Nat) : Sm l l a b := ⟨fun _ _ => rfl, fun x h1 h2 => ⟨x, h1, h2, rfl⟩, fun y h1 h2 => ⟨y, h1, h2, rfl⟩⟩
theorem Sm.wide {T l : List Int} {a b a' b' : Nat} (h : Sm T l a b) (h1 : a' ≤ a) (h2 : b ≤ b') : Sm T l a' b' := by
  obtain ⟨p, q, r⟩ := h
  refine ⟨fun x hx => p x (by omega), fun x x1 x2 => ?_, fun y y1 y2 => ?_⟩
  · by_cases hx : a ≤ x ∧ x < b
    · obtain ⟨y, y1, y2, e⟩ := q x hx.1 hx.2
      exact ⟨y, by omega, by omega, e⟩
    · exact ⟨x, x1, x2, p x hx⟩
  · by_cases hy : a ≤ y ∧ y < b
    · obtain ⟨x, x1, x2, e⟩ := r y hy.1 hy.2
      exact ⟨x, by omega, by omega, e⟩
    · exact ⟨y, y1, y2, p y hy⟩
theorem Sm.trans {U T l : List Int} {a b : Nat} (h : Sm U T a b) (k : Sm T l a b) : Sm U l a b := by
  refine ⟨fun x hx => (h.1 x hx).trans (k.1 x hx), fun x x1 x2 => ?_, fun y y1 y2 => ?_⟩
  · obtain ⟨y, y1, y2, e⟩ := h.2.1 x x1 x2
    obtain ⟨z, z1, z2, e2⟩ := k.2.1 y y1 y2
    exact ⟨z, z1, z2, e.trans e2⟩
  · obtain ⟨x, x1, x2, e⟩ := k.2.2 y y1 y2
    obtain ⟨z, z1, z2, e2⟩ := h.2.2 x x1 x2
    exact ⟨z, z1, z2, e2.trans e⟩
theorem Sm.rng {T l : List Int} {a b n : Nat} (h : Sm T l a b) (hb : b ≤ n) (hr : Rng n l) : Rng n T := fun x hx => by
  by_cases q : a ≤ x ∧ x < b
  · obtain ⟨y, y1, y2, e⟩ := h.2.1 x q.1 q.2
    rw [e]; exact hr y (by omega)
  · rw [h.1 x q]; exact hr x hx
theorem rot_sm {T l : List Int} {a b s i j : Nat} (h : RotM T l (s + i) i j) (ha : a ≤ s) (hb : s + i + j ≤ b) : Sm T l a b := by
  have hs : s + i - i = s := by omega
  refine ⟨fun x hx => ?_, fun x x1 x2 => ?_, fun y y1 y2 => ?_⟩
  · rw [rotM_at h x, hs, if_neg (by omega), if_neg (by omega)]
  · rw [rotM_at h x, hs]
    split
    · exact ⟨x + i, by omega, by omega, rfl⟩
    · split
      · exact ⟨x - j, by omega, by omega, rfl⟩
      · exact ⟨x, x1, x2, rfl⟩
  · by_cases q1 : s ≤ y ∧ y < s + i
    · refine ⟨y + j, by omega, by omega, ?_⟩
      rw [rotM_at h, hs, if_neg (by omega), if_pos (by omega)]
      congr 1; omega
    · by_cases q2 : s + i ≤ y ∧ y < s + i + j
      · refine ⟨y - i, by omega, by omega, ?_⟩
        rw [rotM_at h, hs, if_pos (by omega)]
        congr 1; omega
      · refine ⟨y, y1, y2, ?_⟩
        rw [rotM_at h, hs, if_neg (by omega), if_neg (by omega)]
/-- what a rotation at the right place leaves: two halves to merge, the first one below the second one -/
structure Half (K : Int → Int) (l T : List Int) (a s i j b : Nat) : Prop where
  sm : Sm T l a b
  u1 : Up K T a s
  u2 : Up K T s (s + j)
  l1 : Lows T a s (s + j)
  u3 : Up K T (s + j) (s + i + j)
  u4 : Up K T (s + i + j) b
  l2 : Lows T (s + j) (s + i + j) b
  x : ∀ x y, a ≤ x → x < s + j → s + j ≤ y → y < b → K (nth T x) < K (nth T y)
theorem half {K : Int → Int} {l T : List Int} {a s i j b : Nat} (ha : a ≤ s) (hb : s + i + j ≤ b) (h : RotM T l (s + i) i j) (h1 : Up K l a (s + i)) (h2 : Up K l (s + i) b) (hl : Lows l a (s + i) b)
    (c1 : a < s → s + i + j < b → K (nth l (s - 1)) < K (nth l (s + i + j))) (c2 : 0 < i → 0 < j → K (nth l (s + i + j - 1)) < K (nth l s)) : Half K l T a s i j b := by
  have hs : s + i - i = s := by omega
  have t1 : ∀ x, x < s → nth T x = nth l x := fun x hx => by rw [rotM_at h, hs, if_neg (by omega), if_neg (by omega)]
  have t2 : ∀ x, s ≤ x → x < s + j → nth T x = nth l (x + i) := fun x h1 h2 => by rw [rotM_at h, hs, if_pos (by omega)]
  have t3 : ∀ x, s + j ≤ x → x < s + i + j → nth T x = nth l (x - j) := fun x h1 h2 => by rw [rotM_at h, hs, if_neg (by omega), if_pos (by omega)]
  have t4 : ∀ x, s + i + j ≤ x → nth T x = nth l x := fun x hx => by rw [rotM_at h, hs, if_neg (by omega), if_neg (by omega)]
  refine ⟨rot_sm h ha hb, ?_, ?_, ?_, ?_, ?_, ?_, ?_⟩
  · intro x y p q r; rw [t1 x (by omega), t1 y (by omega)]; exact h1 x y p q (by omega)
  · intro x y p q r; rw [t2 x (by omega) (by omega), t2 y (by omega) (by omega)]; exact h2 _ _ (by omega) (by omega) (by omega)
  · intro x y p q r s'; rw [t1 x (by omega), t2 y (by omega) (by omega)]; exact hl _ _ (by omega) (by omega) (by omega) (by omega)
  · intro x y p q r; rw [t3 x (by omega) (by omega), t3 y (by omega) (by omega)]; exact h1 _ _ (by omega) (by omega) (by omega)
  · intro x y p q r; rw [t4 x (by omega), t4 y (by omega)]; exact h2 _ _ (by omega) (by omega) (by omega)
  · intro x y p q r s'; rw [t3 x (by omega) (by omega), t4 y (by omega)]; exact hl _ _ (by omega) (by omega) (by omega) (by omega)
  · intro x y p q r s'
    by_cases x1 : x < s
    · rw [t1 x x1]
      by_cases y1 : y < s + i + j
      · rw [t3 y (by omega) y1]; exact h1 _ _ (by omega) (by omega) (by omega)
      · rw [t4 y (by omega)]
        have e1 := h1.le (x := x) (y := s - 1) p (by omega) (by omega)
        have e2 := c1 (by omega) (by omega)
        have e3 := h2.le (x := s + i + j) (y := y) (by omega) (by omega) s'
        omega
    · rw [t2 x (by omega) q]
      by_cases y1 : y < s + i + j
      · rw [t3 y (by omega) y1]
        have e1 := h2.le (x := x + i) (y := s + i + j - 1) (by omega) (by omega) (by omega)
        have e2 := c2 (by omega) (by omega)
        have e3 := h1.le (x := s) (y := y - j) (by omega) (by omega) (by omega)
        omega
      · rw [t4 y (by omega)]; exact h2 _ _ (by omega) (by omega) (by omega)
theorem half_end {K : Int → Int} {l T U V : List Int} {a s i j b : Nat} (h : Half K l T a s i j b) (ha : a ≤ s) (hb : s + i + j ≤ b) (s1 : Sm U T a (s + j)) (u1 : Up K U a (s + j)) (s2 : Sm V U (s + j) b) (u2 : Up K V (s + j) b) : Sm V l a b ∧ Up K V a b := by
  refine ⟨((s2.wide (by omega) (Nat.le_refl _)).trans (s1.wide (Nat.le_refl _) (by omega))).trans h.sm, fun x y p q r => ?_⟩
  by_cases x1 : x < s + j
  · by_cases y1 : y < s + j
    · rw [s2.1 x (by omega), s2.1 y (by omega)]; exact u1 x y p q y1
    · rw [s2.1 x (by omega)]
      obtain ⟨y', y2, y3, e⟩ := s2.2.1 y (by omega) r
      obtain ⟨x', x2, x3, e2⟩ := s1.2.1 x p x1
      rw [e, e2, s1.1 y' (by omega)]
      exact h.x x' y' x2 x3 y2 y3
  · exact u2 x y (by omega) q r
/-- the comparison tells, of a number and a greater one, which one has the lower rank -/
def Cmpt (c : Int → Int → Int) (k : Int → Int) (n : Nat) : Prop := ∀ x y : Int, 0 ≤ x → x < y → y < n → (c y x < 0 ↔ k y < k x) ∧ k x ≠ k y
theorem Cmpt.lt {c : Int → Int → Int} {k : Int → Int} {n : Nat} (h : Cmpt c k n) {x y : Int} (h0 : 0 ≤ x) (h1 : x < y) (h2 : y < n) (hc : c y x < 0) : k y < k x := (h x y h0 h1 h2).1.1 hc
theorem Cmpt.ge {c : Int → Int → Int} {k : Int → Int} {n : Nat} (h : Cmpt c k n) {x y : Int} (h0 : 0 ≤ x) (h1 : x < y) (h2 : y < n) (hc : ¬ c y x < 0) : k x < k y := by
  have e := h x y h0 h1 h2
  have := fun q => hc (e.1.2 q)
  have := e.2
  omega
theorem insIn_rot (c : Int → Int → Int) (a k : Nat) (l : List Int) (hk : k < l.length) : ∀ (j : Nat) (cur : List Int), cur.length = l.length → a ≤ j → j ≤ k → RotM cur l k (k - j) 1 → (∀ q, j ≤ q → q < k → c (nth l k) (nth l q) < 0) →
    ∃ p, a ≤ p ∧ p ≤ k ∧ RotM (insIn c a j cur) l k (k - p) 1 ∧ (∀ q, p ≤ q → q < k → c (nth l k) (nth l q) < 0) ∧ (a < p → ¬ c (nth l k) (nth l (p - 1)) < 0)
  | 0, cur, hl, ha, hj, hr, hq => ⟨0, ha, hj, by rw [insIn_low c a 0 cur (by omega)]; exact hr, hq, fun h => by omega⟩
  | j + 1, cur, hl, ha, hj, hr, hq => by
    have e1 : nth cur (j + 1) = nth l k := by rw [rotM_at hr, if_pos (by omega)]; congr 1; omega
    have e2 : nth cur j = nth l j := by rw [rotM_at hr, if_neg (by omega), if_neg (by omega)]
    by_cases h1 : a ≤ j ∧ c (nth cur (j + 1)) (nth cur j) < 0
    · rw [insIn_yes c a j cur h1.1 h1.2]
      refine insIn_rot c a k l hk j (swp cur j) (by unfold swp; simp [hl]) h1.1 (by omega) (rotM_of fun x => ?_) (fun q q1 q2 => ?_)
      · unfold swp
        rw [nth_set _ _ _ _ (by simp; omega), nth_set _ _ _ _ (by omega), e1, e2, rotM_at hr x]
        by_cases x1 : j = x
        · subst x1
          rw [if_pos rfl, if_pos (by omega)]
          congr 1; omega
        · rw [if_neg x1]
          by_cases x2 : j + 1 = x
          · subst x2
            rw [if_pos rfl, if_neg (by omega), if_pos (by omega)]
            congr 1
          · rw [if_neg x2]
            repeat' split
            all_goals first | (exfalso; omega) | rfl
      · by_cases q3 : q = j
        · subst q3; rw [← e1, ← e2]; exact h1.2
        · exact hq q (by omega) q2
    · rw [insIn_no c a j cur h1]
      refine ⟨j + 1, ha, hj, hr, hq, fun h => ?_⟩
      rw [← e1, show j + 1 - 1 = j by omega, ← e2]
      exact fun hc => h1 ⟨by omega, hc⟩
theorem ins_up {c : Int → Int → Int} {K : Int → Int} {n : Nat} (hc : Cmpt c K n) (a : Nat) (l : List Int) (hn : l.length = n) (hr : Rng n l) : ∀ (d i : Nat) (cur : List Int), cur.length = n → a ≤ i → i + d ≤ n → Sm cur l a i → Up K cur a i → (∀ x y, a ≤ x → x < y → y < i + d → nth l x < nth l y) →
    Sm (insOut c a d i cur) l a (i + d) ∧ Up K (insOut c a d i cur) a (i + d)
  | 0, i, cur, hl, hi, hd, hs, hu, hx => by rw [insOut_zero]; exact ⟨hs, hu⟩
  | d + 1, i, cur, hl, hi, hd, hs, hu, hx => by
    rw [insOut_succ, show i + (d + 1) = i + 1 + d by omega]
    have ei : nth cur i = nth l i := hs.1 i (by omega)
    have hcr := hs.rng (by omega) hr
    have hlow : Lows cur a i (i + 1) := fun x y h1 h2 h3 h4 => by
      obtain ⟨z, z1, z2, e⟩ := hs.2.1 x h1 h2
      obtain rfl : y = i := by omega
      rw [e, ei]; exact hx z y z1 z2 (by omega)
    obtain ⟨p, p1, p2, hrot, hq, hp⟩ := insIn_rot c a i cur (by omega) i cur rfl hi (Nat.le_refl _) (rotM_of fun x => by
      repeat' split
      all_goals first | (congr 1; omega) | rfl) (fun q h1 h2 => by omega)
    obtain ⟨t, rfl⟩ : ∃ t, i = p + t := ⟨i - p, by omega⟩
    rw [show p + t - p = t by omega] at hrot
    have hh := half (b := p + t + 1) p1 (Nat.le_refl _) hrot hu (Up.short (by omega)) hlow (fun _ h => by omega) (fun h _ => by
      rw [show p + t + 1 - 1 = p + t by omega]
      exact hc.lt (hcr p (by omega)).1 (hlow p _ p1 (by omega) (by omega) (by omega)) (hcr _ (by omega)).2 (hq p (Nat.le_refl _) (by omega)))
    have hT : Up K (insIn c a (p + t) cur) a (p + 1) := fun x y h1 h2 h3 => by
      by_cases hy : y < p
      · exact hh.u1 x y h1 h2 hy
      · obtain rfl : y = p := by omega
        have e1 := hh.u1.le (x := x) (y := y - 1) h1 (by omega) (by omega)
        have t1 : nth (insIn c a (y + t) cur) (y - 1) = nth cur (y - 1) := by rw [rotM_at hrot, if_neg (by omega), if_neg (by omega)]
        have t2 : nth (insIn c a (y + t) cur) y = nth cur (y + t) := by rw [rotM_at hrot, if_pos (by omega)]
        rw [t1] at e1
        rw [t2]
        have := hc.ge (hcr (y - 1) (by omega)).1 (hlow (y - 1) (y + t) (by omega) (by omega) (by omega) (by omega)) (hcr _ (by omega)).2 (hp (by omega))
        omega
    have hF := half_end hh p1 (Nat.le_refl _) (Sm.refl _ _ _) hT (Sm.refl _ _ _) hh.u3
    exact ins_up hc a l hn hr d (p + t + 1) _ (by rw [insIn_len, hl]) (by omega) (by omega) (hF.1.trans (hs.wide (Nat.le_refl _) (by omega))) hF.2 (fun x y h1 h2 h3 => hx x y h1 h2 (by omega))
/-- the two halves' merge where the first one has one number: i is the place behind those that go ahead of it -/
theorem one_left {c : Int → Int → Int} {K : Int → Int} {n : Nat} (hc : Cmpt c K n) {l T : List Int} {a b i : Nat} (hr : Rng n l) (hb : b ≤ n) (hi1 : a + 1 ≤ i) (hi2 : i ≤ b) (hu : Up K l (a + 1) b) (hl : Lows l a (a + 1) b)
    (g1 : a + 1 < i → c (nth l (i - 1)) (nth l a) < 0) (g2 : i < b → ¬ c (nth l i) (nth l a) < 0) (h : RotM T l (a + 1) 1 (i - (a + 1))) : Sm T l a b ∧ Up K T a b := by
  obtain ⟨j, rfl⟩ : ∃ j, i = a + 1 + j := ⟨i - (a + 1), by omega⟩
  rw [show a + 1 + j - (a + 1) = j by omega] at h
  have hh := half (s := a) (i := 1) (j := j) (b := b) (K := K) (Nat.le_refl _) hi2 h (Up.short (by omega)) hu hl (fun h => by omega) (fun _ hj => by
    rw [show a + 1 + j - 1 = a + 1 + j - 1 from rfl]
    exact hc.lt (hr a (by omega)).1 (hl a _ (Nat.le_refl _) (by omega) (by omega) (by omega)) (hr _ (by omega)).2 (g1 (by omega)))
  have t1 : nth T (a + j) = nth l a := by rw [rotM_at h, if_neg (by omega), if_pos (by omega)]; congr 1; omega
  refine half_end hh (Nat.le_refl _) hi2 (Sm.refl _ _ _) hh.u2 (Sm.refl _ _ _) (fun x y p q r => ?_)
  by_cases hx : x < a + 1 + j
  · obtain rfl : x = a + j := by omega
    have e1 := hh.u4.le (x := a + 1 + j) (y := y) (by omega) (by omega) r
    have t2 : nth T (a + 1 + j) = nth l (a + 1 + j) := by rw [rotM_at h, if_neg (by omega), if_neg (by omega)]
    have := hc.ge (hr a (by omega)).1 (hl a (a + 1 + j) (Nat.le_refl _) (by omega) (by omega) (by omega)) (hr _ (by omega)).2 (g2 (by omega))
    rw [t1]; rw [t2] at e1; omega
  · exact hh.u4 x y (by omega) q r
/-- .. where the second one has one number: i is its place -/
theorem one_right {c : Int → Int → Int} {K : Int → Int} {n : Nat} (hc : Cmpt c K n) {l T : List Int} {a m i : Nat} (hr : Rng n l) (hb : m + 1 ≤ n) (hi1 : a ≤ i) (hi2 : i ≤ m) (hu : Up K l a m) (hl : Lows l a m (m + 1))
    (g1 : a < i → ¬ c (nth l m) (nth l (i - 1)) < 0) (g2 : i < m → c (nth l m) (nth l i) < 0) (h : RotM T l m (m - i) 1) : Sm T l a (m + 1) ∧ Up K T a (m + 1) := by
  obtain ⟨t, rfl⟩ : ∃ t, m = i + t := ⟨m - i, by omega⟩
  rw [show i + t - i = t by omega] at h
  have hh := half (s := i) (i := t) (j := 1) (b := i + t + 1) (K := K) hi1 (Nat.le_refl _) h hu (Up.short (by omega)) hl (fun _ h => by omega) (fun ht _ => by
    rw [show i + t + 1 - 1 = i + t by omega]
    exact hc.lt (hr i (by omega)).1 (hl i _ hi1 (by omega) (by omega) (by omega)) (hr _ (by omega)).2 (g2 (by omega)))
  refine half_end hh hi1 (Nat.le_refl _) (Sm.refl _ _ _) (fun x y h1 h2 h3 => ?_) (Sm.refl _ _ _) hh.u3
  by_cases hy : y < i
  · exact hh.u1 x y h1 h2 hy
  · obtain rfl : y = i := by omega
    have e1 := hh.u1.le (x := x) (y := y - 1) h1 (by omega) (by omega)
    have t1 : nth T (y - 1) = nth l (y - 1) := by rw [rotM_at h, if_neg (by omega), if_neg (by omega)]
    have t2 : nth T y = nth l (y + t) := by rw [rotM_at h, if_pos (by omega)]
    rw [t1] at e1
    rw [t2]
    have := hc.ge (hr (y - 1) (by omega)).1 (hl (y - 1) (y + t) (by omega) (by omega) (by omega) (by omega)) (hr _ (by omega)).2 (g1 (by omega))
    omega
/-- .. where both have more -/
theorem both_half {c : Int → Int → Int} {K : Int → Int} {n : Nat} (hc : Cmpt c K n) {l T : List Int} {a m b mid s lo hi : Nat} (hr : Rng n l) (hb : b ≤ n) (ha : a < m) (hm : m < b) (hmid : mid = (a + b) / 2)
    (hlo : lo = if mid < m then mid + m - b else a) (hhi : hi = if mid < m then mid else m) (s1 : lo ≤ s) (s2 : s ≤ hi) (h1 : Up K l a m) (h2 : Up K l m b) (hl : Lows l a m b)
    (g1 : lo < s → ¬ c (nth l (mid + m - 1 - (s - 1))) (nth l (s - 1)) < 0) (g2 : s < hi → c (nth l (mid + m - 1 - s)) (nth l s) < 0) (h : RotM T l m (m - s) (mid + m - s - m)) :
    a ≤ s ∧ s ≤ m ∧ s ≤ mid ∧ m ≤ mid + m - s ∧ mid + m - s ≤ b ∧ Half K l T a s (m - s) (mid - s) b := by
  have hsm : s ≤ m := by split at hhi <;> omega
  have has : a ≤ s := by split at hlo <;> omega
  have hsd : s ≤ mid := by split at hhi <;> omega
  have he : mid + m - s ≤ b := by split at hlo <;> omega
  refine ⟨has, hsm, hsd, by omega, he, ?_⟩
  obtain ⟨i, rfl⟩ : ∃ i, m = s + i := ⟨m - s, by omega⟩
  obtain ⟨j, hj⟩ : ∃ j, mid = s + j := ⟨mid - s, by omega⟩
  have e1 : s + i - s = i := by omega
  have e2 : mid - s = j := by omega
  rw [e1, show mid + (s + i) - s - (s + i) = j by omega] at h
  rw [e1, e2]
  refine half has (by omega) h h1 h2 hl (fun q1 q2 => ?_) (fun q1 q2 => ?_)
  · have hls : lo < s := by split at hlo <;> omega
    have := g1 hls
    rw [show mid + (s + i) - 1 - (s - 1) = s + i + j by omega] at this
    exact hc.ge (hr (s - 1) (by omega)).1 (hl (s - 1) (s + i + j) (by omega) (by omega) (by omega) (by omega)) (hr _ (by omega)).2 this
  · have hls : s < hi := by split at hhi <;> omega
    have := g2 hls
    rw [show mid + (s + i) - 1 - s = s + i + j - 1 by omega] at this
    exact hc.lt (hr s (by omega)).1 (hl s (s + i + j - 1) (by omega) (by omega) (by omega) (by omega)) (hr _ (by omega)).2 this
end Go.Proofs.Yteoionlnnjcggaa.od

/-
  slices.symMergeCmpFunc where one of the two halves has one number alone.
-/
namespace Go.Proofs.Yteoionlnnjcggaa.od
open Go.RowKit
set_option linter.unusedVariables false
theorem rot_start (l : List Int) (m i j : Nat) (h : i = 0 ∨ j = 0) : RotM l l m i j := rotM_of fun x => by
  repeat' split
  all_goals first | (exfalso; omega) | rfl | (congr 1; omega)
theorem rot_up {cur l : List Int} {a j : Nat} (h : RotM cur l (a + 1) 1 j) (hl : a + j + 1 < cur.length) : RotM (sw cur (a + j) (a + j + 1)) l (a + 1) 1 (j + 1) := rotM_of fun x => by
  rw [sw_nth _ _ _ _ (by omega) (by omega), rotM_at h, rotM_at h, rotM_at h]
  repeat' split
  all_goals first | (exfalso; omega) | rfl | (congr 1; omega)
theorem rot_dn {cur l : List Int} {k i : Nat} (h : RotM cur l (k + 1 + i) i 1) (hl : k + 1 < cur.length) : RotM (sw cur (k + 1) k) l (k + 1 + i) (i + 1) 1 := rotM_of fun x => by
  rw [sw_nth _ _ _ _ (by omega) (by omega), rotM_at h, rotM_at h, rotM_at h]
  repeat' split
  all_goals first | (exfalso; omega) | rfl | (congr 1; omega)
set_option maxRecDepth 100000 in
set_option maxHeartbeats 4000000 in
theorem symA (c : Int → Int → Int) (hcb : ∀ x y, -1 ≤ c x y ∧ c x y ≤ 1) (B g n cap : Nat) (p1 p2 : Value) (w0 : World) (hc : Cmp26 c n p1 p2 B w0) (hn : n ≤ 1000) (hcap : n ≤ cap) (hcap2 : cap ≤ 9223372036854775807) (a m b : Nat) (hm : m = a + 1) (hmb : m < b) (hbn : b ≤ n) (l : List Int) (hr : Rng n l) (w : World) (ho : Own B g n cap l w0 w) :
    Calls Try.prog 66 #[.slice (some ⟨g, 0, none⟩) n cap, .int .i64 a, .int .i64 m, .int .i64 b, .func (.func 41) #[] #[p1, p2]] w fun e w' => e = .returned (.tuple #[]) ∧
      ∃ (T : List Int) (i : Nat), m ≤ i ∧ i ≤ b ∧ (m < i → c (nth l (i - 1)) (nth l a) < 0) ∧ (i < b → ¬ c (nth l i) (nth l a) < 0) ∧ RotM T l m 1 (i - m) ∧ Own B g n cap T w0 w' := by
  have HC := Lib.hid hc
  have HO := Lib.hid ho
  have HR := Lib.hid hr
  have HB := Lib.hid hcb
  have hll := ho.1
  have HU := Lib.hid (fun (cur : List Int) (j : Nat) => rot_up (cur := cur) (l := l) (a := a) (j := j))
  have HS0 := Lib.hid (rot_start l m 1 0 (Or.inr rfl))
  have g0 : (m : Int) - (a : Int) = 1 := by omega
  have Hm := Lib.hid hm
  obtain ⟨P, hP⟩ : ∃ P : Nat → Prop, ∀ i, P i ↔ c (nth l i) (nth l a) < 0 := ⟨_, fun _ => Iff.rfl⟩
  have HP := Lib.hid hP
  clear hc ho hr hcb hm hP
  go_enter Try.func66, Try.ntmps66
  go_wp2
  go_loopw [10, 11] (fun i j wr => ∃ (x y : Nat), m ≤ x ∧ x ≤ y ∧ y ≤ b ∧ i = .int .i64 x ∧ j = .int .i64 y ∧ Hid (m < x → P (x - 1)) ∧ Hid (y < b → ¬ P y) ∧ Hid (Own B g n cap l w0 wr)) (fun i j _ => (intOf j).toNat - (intOf i).toNat)
  case atStart => exact ⟨m, b, Nat.le_refl _, by omega, Nat.le_refl _, rfl, rfl, fun h => by omega, fun h => by omega, HO⟩
  case round =>
    clear HO
    obtain ⟨x, y, hx, hxy, hy, rfl, rfl, H1, H2, HO⟩ := hrel
    by_cases hlt : x < y
    · obtain ⟨h, hh⟩ : ∃ h, h = (x + y) / 2 := ⟨_, rfl⟩
      have u1 : IntKind.u64.wrap ((x : Int) + (y : Int)) = (x : Int) + (y : Int) := IntWalk.u64_in _ (by omega)
      have u2 : ((x : Int) + (y : Int)) / 2 = (h : Int) := by omega
      have e1 := HO.out.cell h (by omega)
      have e2 := HO.out.cell a (by have := Hm.out; omega)
      obtain ⟨x1, x2⟩ := HR.out h (by omega)
      obtain ⟨y1, y2⟩ := HR.out a (by have := Hm.out; omega)
      have HCm := Lib.hid (fun W (hb : Below B w0 W) => HC.out (nth l h) (nth l a) W x1 x2 y1 y2 hb)
      have hcb := HB.out (nth l h) (nth l a)
      have HOc := Lib.hid (fun (W : World) (q : Own B g n cap l w0 W) => And.intro (q.cell h (by omega)) (q.cell a (by have := Hm.out; omega)))
      have k1 : (h : Int) < (n : Int) := by omega
      have k2 : (a : Int) < (n : Int) := by have := Hm.out; omega
      have xh : x ≤ h := by omega
      have hy2 : h < y := by omega
      clear hh
      by_cases hc : c (nth l h) (nth l a) < 0
      · have H1' : Hid (m < h + 1 → P (h + 1 - 1)) := fun _ => (HP.out h).2 hc
        generalize hcx : c (nth l h) (nth l a) = cv at *
        clear hcx
        generalize nth l h = vx at *
        generalize nth l a = vy at *
        go_wp2
        go_shifts
        go_wp2
        go_region_held3 (fun w' => w'.cell? ⟨g, h, none⟩ = some (.int .i64 vx) ∧ w'.cell? ⟨g, a, none⟩ = some (.int .i64 vy)) (first | exact ⟨e1, e2⟩ | exact ⟨f1, f2⟩)
          (first
            | (go_at_call 41; refine (HCm.out _ (HO.out.keep (bl_drew _)).2.2.2).mono ?_; rintro e w2 ⟨rfl, hb2⟩; have HO2 := Lib.hid (HO.out.keep (bl_undr hb2)); obtain ⟨f1, f2⟩ := HOc.out _ HO2.out; clear hb2))
        clear e1 e2
        go_wp2
        go_roundw
        case rel => exact ⟨h + 1, y, by omega, by omega, hy, by go_num, rfl, H1', H2, HO2⟩
        case measure => simp [intOf]; omega
      · have H2' : Hid (h < b → ¬ P h) := fun _ q => hc ((HP.out h).1 q)
        generalize hcx : c (nth l h) (nth l a) = cv at *
        clear hcx
        generalize nth l h = vx at *
        generalize nth l a = vy at *
        go_wp2
        go_shifts
        go_wp2
        go_region_held3 (fun w' => w'.cell? ⟨g, h, none⟩ = some (.int .i64 vx) ∧ w'.cell? ⟨g, a, none⟩ = some (.int .i64 vy)) (first | exact ⟨e1, e2⟩ | exact ⟨f1, f2⟩)
          (first
            | (go_at_call 41; refine (HCm.out _ (HO.out.keep (bl_drew _)).2.2.2).mono ?_; rintro e w2 ⟨rfl, hb2⟩; have HO2 := Lib.hid (HO.out.keep (bl_undr hb2)); obtain ⟨f1, f2⟩ := HOc.out _ HO2.out; clear hb2))
        clear e1 e2
        go_wp2
        go_roundw
        case rel => exact ⟨x, h, by omega, by omega, by omega, rfl, rfl, H1, H2', HO2⟩
        case measure => simp [intOf]; omega
    · obtain rfl : x = y := by omega
      have i1 : (x : Int) - 1 = ((x - 1 : Nat) : Int) := by omega
      go_wp2
      go_loopw [13] (fun k wr => ∃ (j : Nat) (cur : List Int), a + j ≤ x - 1 ∧ k = .int .i64 (a + j : Nat) ∧ Hid (RotM cur l m 1 j) ∧ Hid (Own B g n cap cur w0 wr)) (fun k _ => x - 1 - (intOf k).toNat)
      case atStart => exact ⟨0, l, by have := Hm.out; omega, rfl, HS0, HO⟩
      case round =>
        clear HO
        obtain ⟨j, cur, hj, rfl, HT, HO⟩ := hrel
        by_cases hl2 : a + j < x - 1
        · obtain ⟨k, hk⟩ : ∃ k, a + j = k := ⟨_, rfl⟩
          rw [hk] at hl2 ⊢
          have e1 := HO.out.cell k (by omega)
          have e2 := HO.out.cell (k + 1) (by omega)
          have f1 := HO.out.frozen k
          have f2 := HO.out.frozen (k + 1)
          have HN : Hid (∀ W, Own B g n cap cur w0 W → Own B g n cap (sw cur k (k + 1)) w0 ((W.setCell ⟨g, k, none⟩ (.int .i64 (nth cur (k + 1)))).setCell ⟨g, k + 1, none⟩ (.int .i64 (nth cur k)))) := fun W q => q.sw k (k + 1)
          have HT' : Hid (RotM (sw cur k (k + 1)) l m 1 (j + 1)) := by
            have := HT.out
            show RotM _ _ _ _ _
            rw [Hm.out] at this ⊢
            rw [← hk]; exact HU.out cur j this (by have := HO.out.1; omega)
          have g3 : (0 : Int) ≤ (k : Int) + 1 := by omega
          have g4 : (k : Int) + 1 < (n : Int) := by omega
          have g7 : ((k : Int) + 1).toNat = k + 1 := by omega
          have g8 : (k : Int) < (n : Int) := by omega
          generalize nth cur (k + 1) = vy at *
          generalize nth cur k = vx at *
          go_wp2
          go_region
          all_goals
            go_wp2
            go_roundw
            case rel => exact ⟨j + 1, _, by omega, by rw [show a + (j + 1) = k + 1 by omega]; go_num, HT', (HN.out _ HO.out).keep (bl_drew _)⟩
            case measure => simp [intOf]; omega
        · have hj2 : j = x - m := by have := Hm.out; omega
          have hq : ¬ ((a + j : Nat) : Int) < ((x - 1 : Nat) : Int) := by omega
          go_wp2
          refine bodyPost_ret (results_none rfl _ _ _) rfl ?_
          exact ⟨rfl, cur, x, hx, hy, fun q => (HP.out _).1 (H1.out q), fun q => by have := H2.out q; rw [HP.out] at this; omega, by rw [← hj2]; exact HT.out, HO.out⟩
set_option maxRecDepth 100000 in
set_option maxHeartbeats 4000000 in
theorem symB (c : Int → Int → Int) (hcb : ∀ x y, -1 ≤ c x y ∧ c x y ≤ 1) (B g n cap : Nat) (p1 p2 : Value) (w0 : World) (hc : Cmp26 c n p1 p2 B w0) (hn : n ≤ 1000) (hcap : n ≤ cap) (hcap2 : cap ≤ 9223372036854775807) (a m b : Nat) (hm : b = m + 1) (hma : a + 1 < m) (hbn : b ≤ n) (l : List Int) (hr : Rng n l) (w : World) (ho : Own B g n cap l w0 w) :
    Calls Try.prog 66 #[.slice (some ⟨g, 0, none⟩) n cap, .int .i64 a, .int .i64 m, .int .i64 b, .func (.func 41) #[] #[p1, p2]] w fun e w' => e = .returned (.tuple #[]) ∧
      ∃ (T : List Int) (i : Nat), a ≤ i ∧ i ≤ m ∧ (a < i → ¬ c (nth l m) (nth l (i - 1)) < 0) ∧ (i < m → c (nth l m) (nth l i) < 0) ∧ RotM T l m (m - i) 1 ∧ Own B g n cap T w0 w' := by
  have HC := Lib.hid hc
  have HO := Lib.hid ho
  have HR := Lib.hid hr
  have HB := Lib.hid hcb
  have hll := ho.1
  have HU := Lib.hid (fun (cur : List Int) (k i : Nat) => rot_dn (cur := cur) (l := l) (k := k) (i := i))
  have HS0 := Lib.hid (rot_start l m 0 1 (Or.inl rfl))
  have g0 : (b : Int) - (m : Int) = 1 := by omega
  have g1 : ((m : Int) - (a : Int) == 1) = false := by simp; omega
  have Hm := Lib.hid hm
  obtain ⟨P, hP⟩ : ∃ P : Nat → Prop, ∀ i, P i ↔ c (nth l m) (nth l i) < 0 := ⟨_, fun _ => Iff.rfl⟩
  have HP := Lib.hid hP
  clear hc ho hr hcb hm hP
  go_enter Try.func66, Try.ntmps66
  go_wp2
  go_loopw [14, 15] (fun i j wr => ∃ (x y : Nat), a ≤ x ∧ x ≤ y ∧ y ≤ m ∧ i = .int .i64 x ∧ j = .int .i64 y ∧ Hid (a < x → ¬ P (x - 1)) ∧ Hid (y < m → P y) ∧ Hid (Own B g n cap l w0 wr)) (fun i j _ => (intOf j).toNat - (intOf i).toNat)
  case atStart => exact ⟨a, m, Nat.le_refl _, by omega, Nat.le_refl _, rfl, rfl, fun h => by omega, fun h => by omega, HO⟩
  case round =>
    clear HO
    obtain ⟨x, y, hx, hxy, hy, rfl, rfl, H1, H2, HO⟩ := hrel
    by_cases hlt : x < y
    · obtain ⟨h, hh⟩ : ∃ h, h = (x + y) / 2 := ⟨_, rfl⟩
      have u1 : IntKind.u64.wrap ((x : Int) + (y : Int)) = (x : Int) + (y : Int) := IntWalk.u64_in _ (by omega)
      have u2 : ((x : Int) + (y : Int)) / 2 = (h : Int) := by omega
      have e1 := HO.out.cell h (by omega)
      have e2 := HO.out.cell m (by have := Hm.out; omega)
      obtain ⟨x1, x2⟩ := HR.out h (by omega)
      obtain ⟨y1, y2⟩ := HR.out m (by have := Hm.out; omega)
      have HCm := Lib.hid (fun W (hb : Below B w0 W) => HC.out (nth l m) (nth l h) W y1 y2 x1 x2 hb)
      have hcb := HB.out (nth l m) (nth l h)
      have HOc := Lib.hid (fun (W : World) (q : Own B g n cap l w0 W) => And.intro (q.cell h (by omega)) (q.cell m (by have := Hm.out; omega)))
      have k1 : (h : Int) < (n : Int) := by omega
      have k2 : (m : Int) < (n : Int) := by have := Hm.out; omega
      have xh : x ≤ h := by omega
      have hy2 : h < y := by omega
      clear hh
      by_cases hc : c (nth l m) (nth l h) < 0
      · have H2' : Hid (h < m → P h) := fun _ => (HP.out h).2 hc
        generalize hcx : c (nth l m) (nth l h) = cv at *
        clear hcx
        generalize nth l h = vx at *
        generalize nth l m = vy at *
        go_wp2
        go_shifts
        go_wp2
        go_region_held3 (fun w' => w'.cell? ⟨g, h, none⟩ = some (.int .i64 vx) ∧ w'.cell? ⟨g, m, none⟩ = some (.int .i64 vy)) (first | exact ⟨e1, e2⟩ | exact ⟨f1, f2⟩)
          (first
            | (go_at_call 41; refine (HCm.out _ (HO.out.keep (bl_drew _)).2.2.2).mono ?_; rintro e w2 ⟨rfl, hb2⟩; have HO2 := Lib.hid (HO.out.keep (bl_undr hb2)); obtain ⟨f1, f2⟩ := HOc.out _ HO2.out; clear hb2))
        clear e1 e2
        go_wp2
        go_roundw
        case rel => exact ⟨x, h, by omega, by omega, by omega, rfl, rfl, H1, H2', HO2⟩
        case measure => simp [intOf]; omega
      · have H1' : Hid (a < h + 1 → ¬ P (h + 1 - 1)) := fun _ q => hc ((HP.out h).1 q)
        generalize hcx : c (nth l m) (nth l h) = cv at *
        clear hcx
        generalize nth l h = vx at *
        generalize nth l m = vy at *
        go_wp2
        go_shifts
        go_wp2
        go_region_held3 (fun w' => w'.cell? ⟨g, h, none⟩ = some (.int .i64 vx) ∧ w'.cell? ⟨g, m, none⟩ = some (.int .i64 vy)) (first | exact ⟨e1, e2⟩ | exact ⟨f1, f2⟩)
          (first
            | (go_at_call 41; refine (HCm.out _ (HO.out.keep (bl_drew _)).2.2.2).mono ?_; rintro e w2 ⟨rfl, hb2⟩; have HO2 := Lib.hid (HO.out.keep (bl_undr hb2)); obtain ⟨f1, f2⟩ := HOc.out _ HO2.out; clear hb2))
        clear e1 e2
        go_wp2
        go_roundw
        case rel => exact ⟨h + 1, y, by omega, by omega, hy, by go_num, rfl, H1', H2, HO2⟩
        case measure => simp [intOf]; omega
        all_goals (exfalso; rename_i hh; simp at hh; omega)
    · obtain rfl : x = y := by omega
      go_wp2
      go_loopw [17] (fun k wr => ∃ (q i : Nat) (cur : List Int), q + i = m ∧ x ≤ q ∧ k = .int .i64 q ∧ Hid (RotM cur l m i 1) ∧ Hid (Own B g n cap cur w0 wr)) (fun k _ => (intOf k).toNat)
      case atStart => exact ⟨m, 0, l, rfl, by omega, rfl, HS0, HO⟩
      case round =>
        clear HO
        obtain ⟨q, i, cur, hqi, hq, rfl, HT, HO⟩ := hrel
        by_cases hl2 : x < q
        · obtain ⟨k, rfl⟩ : ∃ k, q = k + 1 := ⟨q - 1, by omega⟩
          have e1 := HO.out.cell k (by have := Hm.out; omega)
          have e2 := HO.out.cell (k + 1) (by have := Hm.out; omega)
          have f1 := HO.out.frozen k
          have f2 := HO.out.frozen (k + 1)
          have HN : Hid (∀ W, Own B g n cap cur w0 W → Own B g n cap (sw cur (k + 1) k) w0 ((W.setCell ⟨g, k + 1, none⟩ (.int .i64 (nth cur k))).setCell ⟨g, k, none⟩ (.int .i64 (nth cur (k + 1))))) := fun W q => q.sw (k + 1) k
          have HT' : Hid (RotM (sw cur (k + 1) k) l m (i + 1) 1) := by
            have := HT.out
            show RotM _ _ _ _ _
            rw [← hqi] at this ⊢
            exact HU.out cur k i this (by have := HO.out.1; have := Hm.out; omega)
          have g3 : (0 : Int) ≤ (k : Int) + 1 := by omega
          have g4 : (k : Int) + 1 < (n : Int) := by have := Hm.out; omega
          have g5 : IntKind.i64.wrap ((k : Int) + 1 - 1) = (k : Int) := IntWalk.i64_in _ (by omega) |>.trans (by omega)
          have g7 : ((k : Int) + 1).toNat = k + 1 := by omega
          have g8 : (k : Int) < (n : Int) := by omega
          have g9 : (x : Int) < (k : Int) + 1 := by omega
          have hqi2 := Lib.hid hqi
          clear hqi
          generalize nth cur (k + 1) = vy at *
          generalize nth cur k = vx at *
          go_wp2
          go_region
          all_goals
            go_wp2
            go_roundw
            case rel => exact ⟨k, i + 1, _, by have := hqi2.out; omega, by omega, by go_num, HT', (HN.out _ HO.out).keep (bl_drew _)⟩
            case measure => simp [intOf]
        · obtain rfl : x = q := by omega
          have hi : i = m - x := by omega
          have hqx : ¬ (x : Int) < (x : Int) := by omega
          go_wp2
          refine bodyPost_ret (results_none rfl _ _ _) rfl ?_
          exact ⟨rfl, cur, x, hx, hy, fun q => by have := H1.out q; rw [HP.out] at this; omega, fun q => (HP.out _).1 (H2.out q), by rw [← hi]; exact HT.out, HO.out⟩
end Go.Proofs.Yteoionlnnjcggaa.od

/-
  Records in memory; log.Log.Add.
-/
import Derived.Test.YtgldgilhegdpjaaLg1
import Derived.Deep.AppendLies
import Derived.Deep.RegionWith
namespace Go.Proofs.Ytgldgilhegdpjaa
open Go.RowKit
set_option linter.unusedVariables false
/-- blocks from B on may have turned, if they are new or of a type that P tells -/
def Fr (B : Nat) (P : TypeId → Prop) (w w' : World) : Prop := ∃ S, Tw S w w' ∧ ∀ i, i ∈ S → B ≤ i ∧ (w.heap.size ≤ i ∨ ∃ c t, w.heap[i]? = some (.cells c t (0, 0)) ∧ P t)
section
variable {B : Nat} {P Q : TypeId → Prop} {w w1 w2 : World}
theorem Fr.of (h : Below w.heap.size w w1) : Fr B P w w1 := ⟨[], Tw.of h, by simp⟩
theorem Fr.refl (w : World) : Fr B P w w := Fr.of (Below.refl _ _)
theorem Fr.mono (h : Fr B P w w1) (k : ∀ t, P t → Q t) : Fr B Q w w1 := by
  obtain ⟨S, t, hS⟩ := h
  refine ⟨S, t, fun i hi => ⟨(hS i hi).1, ?_⟩⟩
  rcases (hS i hi).2 with h | ⟨c, u, h1, h2⟩
  · exact .inl h
  · exact .inr ⟨c, u, h1, k u h2⟩
theorem Fr.lower {C : Nat} (h : Fr B P w w1) (k : C ≤ B) : Fr C P w w1 := by
  obtain ⟨S, t, hS⟩ := h
  exact ⟨S, t, fun i hi => ⟨Nat.le_trans k (hS i hi).1, (hS i hi).2⟩⟩
theorem Fr.size (h : Fr B P w w1) : w.heap.size ≤ w1.heap.size := by
  obtain ⟨S, t, hS⟩ := h
  exact t.size
theorem Fr.trans (h : Fr B P w w1) (k : Fr B P w1 w2) : Fr B P w w2 := by
  obtain ⟨S, t, hS⟩ := h
  obtain ⟨R, u, hR⟩ := k
  refine ⟨S ++ R, (t.mono (by simp +contextual)).trans (u.mono (by simp +contextual)), fun i hi => ?_⟩
  by_cases h1 : i ∈ S
  · exact hS i h1
  · have h2 : i ∈ R := by simpa [h1] using hi
    refine ⟨(hR i h2).1, ?_⟩
    by_cases h3 : w.heap.size ≤ i
    · exact .inl h3
    · right
      rcases (hR i h2).2 with h4 | ⟨c, v, h5, h6⟩
      · have := t.size; omega
      · exact ⟨c, v, (t.block i (by omega) h1).symm.trans h5, h6⟩
theorem Fr.below (h : Fr B P w w1) {a : World} (hb : Below B a w) (hB : B ≤ w.heap.size) : Below B a w1 := by
  obtain ⟨S, t, hS⟩ := h
  exact t.below hb (fun i hi => (hS i hi).1) hB
theorem Fr.blk (h : Fr B P w w1) {i : Nat} {c : Array Value} {t : TypeId} (hi : w.heap[i]? = some (.cells c t (0, 0))) (hP : ¬ P t ∨ i < B) : w1.heap[i]? = some (.cells c t (0, 0)) := by
  obtain ⟨S, u, hS⟩ := h
  refine blk_tw hi u (fun hm => ?_)
  obtain ⟨h1, h2⟩ := hS i hm
  have := lt_hp hi
  rcases h2 with h2 | ⟨c2, t2, h3, h4⟩
  · omega
  · rw [hi] at h3
    injection h3 with h3
    injection h3 with _ h3 _
    subst h3
    rcases hP with hP | hP
    · exact hP h4
    · omega
theorem Fr.dr (h : Fr B P w w1) : Fr B P w w1.drew := by
  obtain ⟨S, t, hS⟩ := h
  exact ⟨S, t.dr, hS⟩
theorem Fr.row {C : Nat} {T : TypeId} {k n : Nat} {v : Value} {xs : List Value} (h : Fr B P w w1) (ho : w.ownsRow C T k v n xs) (hP : ¬ P T) : w1.ownsRow C T k v n xs := by
  refine ⟨ho.1, ?_⟩
  rcases ho.2 with hn | ⟨g, cap, cur, hv, hg, hh, r⟩
  · exact Or.inl hn
  · exact Or.inr ⟨g, cap, cur, hv, hg, h.blk hh (.inl hP), r⟩
theorem Fr.lst {C : Nat} {v : Value} {l : List Int} (h : Fr B P w w1) (ho : Lst C v l w) (hP : ¬ P 3) : Lst C v l w1 := by
  rcases ho with ho | ⟨g, cap, cur, h1, h2, h3, h4, h5, h6⟩
  · exact .inl ho
  · have h7 := h.blk h5 (.inl hP)
    exact .inr ⟨g, cap, cur, h1, h2, h3, h4, h7, fun j hj => by rw [← h6 j hj]; simp [World.cell?, h7, h5]⟩
end
theorem Lst.ints {B : Nat} {v : Value} {l : List Int} {w : World} (h : Lst B v l w) : ∃ a c, v = .slice a l.length c ∧ Ints w a l := by
  rcases h with ⟨rfl, rfl⟩ | ⟨g, cap, cur, rfl, h2, h3, h4, h5, h6⟩
  · exact ⟨none, 0, rfl, fun j hj => by simp at hj⟩
  · exact ⟨_, _, rfl, fun j hj => ⟨g, 0, rfl, lt_hp h5, by rw [Nat.zero_add]; exact h6 j hj⟩⟩
abbrev Rec := Int × List Int
def enc (ks : List (Int × Value)) : List Value := ks.flatMap fun k => [.int .i64 k.1, k.2]
theorem enc_app (a b : List (Int × Value)) : enc (a ++ b) = enc a ++ enc b := by simp [enc]
theorem enc_len : ∀ ks : List (Int × Value), (enc ks).length = ks.length * 2
  | [] => rfl
  | a :: l => by have := enc_len l; simp [enc] at this ⊢; omega
theorem enc_get : ∀ (l : List (Int × Value)) (i : Nat) (k : Int × Value), l[i]? = some k → (enc l)[i * 2]? = some (.int .i64 k.1) ∧ (enc l)[i * 2 + 1]? = some k.2
  | [], i, k, h => by simp at h
  | a :: l, 0, k, h => by
    simp at h; subst h
    exact ⟨rfl, rfl⟩
  | a :: l, i + 1, k, h => by
    have := enc_get l i k (by simpa using h)
    have e : enc (a :: l) = [.int .i64 a.1, a.2] ++ enc l := rfl
    rw [e]
    constructor
    · rw [List.getElem?_append_right (by simp; omega)]
      rw [show (i + 1) * 2 - [Value.int .i64 a.1, a.2].length = i * 2 by simp; omega]
      exact this.1
    · rw [List.getElem?_append_right (by simp; omega)]
      rw [show (i + 1) * 2 + 1 - [Value.int .i64 a.1, a.2].length = i * 2 + 1 by simp; omega]
      exact this.2
/-- the records' paths in memory -/
def Ps (C : Nat) (ks : List (Int × Value)) (rs : List Rec) (w : World) : Prop := ks.length = rs.length ∧ ∀ (j : Nat) (k : Int × Value) (r : Rec), ks[j]? = some k → rs[j]? = some r → k.1 = r.1 ∧ Lst C k.2 r.2 w ∧ r.2.length ≤ 20
theorem Ps.nil (C : Nat) (w : World) : Ps C [] [] w := ⟨rfl, fun j k r h => by simp at h⟩
theorem Ps.fr {B C : Nat} {P : TypeId → Prop} {ks : List (Int × Value)} {rs : List Rec} {w w1 : World} (h : Ps C ks rs w) (f : Fr B P w w1) (hP : ¬ P 3) : Ps C ks rs w1 :=
  ⟨h.1, fun j k r h1 h2 => ⟨(h.2 j k r h1 h2).1, f.lst (h.2 j k r h1 h2).2.1 hP, (h.2 j k r h1 h2).2.2⟩⟩
theorem Ps.up {C : Nat} {ks : List (Int × Value)} {rs : List Rec} {w w1 : World} (h : Ps C ks rs w) (f : Below w.heap.size w w1) : Ps C ks rs w1 := h.fr (B := 0) (P := fun _ => False) (Fr.of f) (fun h => h)
theorem Ps.mono {C D : Nat} {ks : List (Int × Value)} {rs : List Rec} {w : World} (h : Ps C ks rs w) (f : D ≤ C) : Ps D ks rs w :=
  ⟨h.1, fun j k r h1 h2 => ⟨(h.2 j k r h1 h2).1, (h.2 j k r h1 h2).2.1.mono f, (h.2 j k r h1 h2).2.2⟩⟩
theorem Ps.snoc {C : Nat} {ks : List (Int × Value)} {rs : List Rec} {w : World} (h : Ps C ks rs w) (b : Int) (v : Value) (l : List Int) (hl : Lst C v l w) (h20 : l.length ≤ 20) : Ps C (ks ++ [(b, v)]) (rs ++ [(b, l)]) w := by
  refine ⟨by simp [h.1], fun j k r h1 h2 => ?_⟩
  by_cases hj : j < ks.length
  · rw [List.getElem?_append_left hj] at h1
    rw [List.getElem?_append_left (by rw [← h.1]; exact hj)] at h2
    exact h.2 j k r h1 h2
  · have e : j = ks.length := by
      have := (List.getElem?_eq_some_iff.1 h1).1
      simp at this
      omega
    subst e
    rw [List.getElem?_append_right (Nat.le_refl _)] at h1
    rw [h.1, List.getElem?_append_right (Nat.le_refl _)] at h2
    simp at h1 h2
    subst h1 h2
    exact ⟨rfl, hl, h20⟩
theorem info36 : (Try.prog.info? 36).map (fun i => (i.zero, i.size, i.bytes)) = some (some (.agg #[.int .i64 0, .slice none 0 0]), 2, 32) := by kernel_rfl
theorem info45 : (Try.prog.info? 45).map (fun i => (i.zero, i.size, i.bytes)) = some (some (.agg #[.int .i64 0, .slice none 0 0]), 2, 32) := by kernel_rfl
theorem rec_new (w : World) (x y : Value) (t : TypeId) : ∀ j u, [x, y][j]? = some u → (w.alloc (.cells #[x, y] t)).cell? ((⟨w.heap.size, 0, none⟩ : Addr).add j) = some u :=
  World.news_of_block (cs := #[x, y]) (hal_new w (.cells #[x, y] t))
theorem enc_snoc {w : World} {B : Nat} {T : TypeId} {v : Value} {ks : List (Int × Value)} {b : Int} {p : Value} {n : Nat} (hn : ks.length = n) (h : w.ownsRow B T 2 v (n + 1) (enc ks ++ [.int .i64 b, p])) : w.ownsRow B T 2 v (ks ++ [(b, p)]).length (enc (ks ++ [(b, p)])) := by
  rw [enc_app, List.length_append, hn]; exact h
/-- what an append leaves -/
theorem app_fr {B C : Nat} {T : TypeId} {k n : Nat} {v : Value} {xs : List Value} {o : Obj} {wr w2 : World} (HO : wr.ownsRow C T k v n xs) (hC : B ≤ C) (hg : (wr.alloc o).grownBy w2 v.ownBlock) : Fr B (fun t => t = T) wr w2 := by
  refine ⟨v.ownBlock.toList, ⟨hg.os, hg.tape, hg.output, Nat.le_trans (by simp) hg.size, fun i hi hn => (hg.block i (by simp; omega) (fun e => hn (by rw [← e]; simp))).trans (heap_alloc_old wr o hi)⟩, fun i hi => ?_⟩
  simp at hi
  have h1 := HO.lt i hi
  refine ⟨by omega, .inr ?_⟩
  rcases HO.2 with ⟨hn, _⟩ | ⟨g, cap, cur, hv, hg, hh, r⟩
  · subst hn; simp [Value.ownBlock] at hi
  · subst hv
    simp [Value.ownBlock] at hi
    subst hi
    exact ⟨cur, T, hh, rfl⟩
end Go.Proofs.Ytgldgilhegdpjaa

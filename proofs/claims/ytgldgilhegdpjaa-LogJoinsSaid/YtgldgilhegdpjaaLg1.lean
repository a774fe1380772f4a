/-
  Lists in memory that are apart; slices.Clone; a record copied.
-/
import Derived.Test.YtgldgilhegdpjaaBase
import Derived.Handy
import Derived.Deep.Cut
import Derived.Deep.RegionHeld3
namespace Go.Proofs.Ytgldgilhegdpjaa
open Go.RowKit
set_option linter.unusedVariables false
theorem blk_set {w : World} {g : Nat} {cs : Array Value} {t : TypeId} (h : w.heap[g]? = some (.cells cs t (0, 0))) (j : Nat) (v : Value) : (w.setCell ⟨g, j, none⟩ v).heap[g]? = some (.cells (cs.setIfInBounds j v) t (0, 0)) := heap_setCell_same w g j cs t v h
theorem blk_oth {w : World} {g q : Nat} {o : Obj} (h : w.heap[g]? = some o) (hne : g ≠ q) (j : Nat) (v : Value) : (w.setCell ⟨q, j, none⟩ v).heap[g]? = some o := (Below.heap_setCell w ⟨q, j, none⟩ v g hne).trans h
theorem hal_new (w : World) (o : Obj) : (w.alloc o).heap[w.heap.size]? = some o := by
  show (w.heap.push o)[w.heap.size]? = _
  simp
/-- the blocks of a list may have turned, and there may be new ones -/
structure Tw (S : List Nat) (w w' : World) : Prop where
  os : w'.os = w.os
  tape : w'.tape = w.tape
  output : w'.output = w.output
  size : w.heap.size ≤ w'.heap.size
  block : ∀ i, i < w.heap.size → i ∉ S → w'.heap[i]? = w.heap[i]?
theorem Tw.refl (S : List Nat) (w : World) : Tw S w w := ⟨rfl, rfl, rfl, Nat.le_refl _, fun _ _ _ => rfl⟩
theorem Tw.trans {S : List Nat} {w w1 w2 : World} (h : Tw S w w1) (k : Tw S w1 w2) : Tw S w w2 :=
  ⟨k.os.trans h.os, k.tape.trans h.tape, k.output.trans h.output, Nat.le_trans h.size k.size, fun i hi hn => (k.block i (Nat.lt_of_lt_of_le hi h.size) hn).trans (h.block i hi hn)⟩
theorem Tw.mono {S T : List Nat} {w w1 : World} (h : Tw S w w1) (k : ∀ i, i ∈ S → i ∈ T) : Tw T w w1 := ⟨h.os, h.tape, h.output, h.size, fun i hi hn => h.block i hi (fun hs => hn (k i hs))⟩
theorem Tw.al {S : List Nat} {w w1 : World} (h : Tw S w w1) (o : Obj) : Tw S w (w1.alloc o) :=
  ⟨h.os, h.tape, h.output, Nat.le_trans h.size (by simp), fun i hi hn => (Below.heap_alloc w1 o i (Nat.lt_of_lt_of_le hi h.size)).trans (h.block i hi hn)⟩
theorem Tw.dn {S : List Nat} {w w1 : World} (h : Tw S w w1) (n : Nat) : Tw S w (w1.drewN n) := ⟨h.os, h.tape, h.output, h.size, h.block⟩
theorem Tw.dr {S : List Nat} {w w1 : World} (h : Tw S w w1) : Tw S w w1.drew := ⟨h.os, h.tape, h.output, h.size, h.block⟩
theorem Tw.undr {S : List Nat} {w w1 : World} (h : Tw S w.drew w1) : Tw S w w1 := ⟨h.os, h.tape, h.output, h.size, h.block⟩
theorem Tw.st {S : List Nat} {w w1 : World} (h : Tw S w w1) (q : Nat) (hq : q ∈ S ∨ w.heap.size ≤ q) (j : Nat) (v : Value) : Tw S w (w1.setCell ⟨q, j, none⟩ v) :=
  ⟨h.os, h.tape, h.output, by simpa [World.setCell] using h.size, fun i hi hn => (Below.heap_setCell w1 ⟨q, j, none⟩ v i (by show i ≠ q; rintro rfl; rcases hq with hq | hq; exact hn hq; omega)).trans (h.block i hi hn)⟩
theorem Tw.of {S : List Nat} {w w1 : World} (h : Below w.heap.size w w1) : Tw S w w1 := ⟨h.os, h.tape, h.output, h.size, fun i hi _ => h.block i hi⟩
theorem Tw.below {S : List Nat} {B : Nat} {a w w1 : World} (h : Below B a w) (k : Tw S w w1) (hS : ∀ i, i ∈ S → B ≤ i) (hB : B ≤ w.heap.size) : Below B a w1 :=
  ⟨k.os.trans h.os, k.tape.trans h.tape, k.output.trans h.output, Nat.le_trans h.size k.size, fun i hi => (k.block i (by omega) (fun hs => by have := hS i hs; omega)).trans (h.block i hi)⟩
theorem blk_tw {S : List Nat} {p : Nat} {o : Obj} {w w1 : World} (h : w.heap[p]? = some o) (q : Tw S w w1) (h1 : p ∉ S) : w1.heap[p]? = some o := (q.block p (lt_hp h) h1).trans h
theorem cell_tw {S : List Nat} {p : Nat} {w w1 : World} (q : Tw S w w1) (hp : p < w.heap.size) (h1 : p ∉ S) (j : Nat) : w1.cell? ⟨p, j, none⟩ = w.cell? ⟨p, j, none⟩ := by simp [World.cell?, q.block p hp h1]
theorem blk_ty {w : World} {p q : Nat} {c d : Array Value} {t u : TypeId} (h1 : w.heap[p]? = some (.cells c t (0, 0))) (h2 : w.heap[q]? = some (.cells d u (0, 0))) (ht : t ≠ u) : p ≠ q := by
  rintro rfl
  rw [h1] at h2
  simp at h2
  exact ht h2.2
/-- a list in memory, whole, in a block from B on -/
def Lst (B : Nat) (v : Value) (l : List Int) (w : World) : Prop := (v = .slice none 0 0 ∧ l = []) ∨ ∃ g cap cur, v = .slice (some ⟨g, 0, none⟩) l.length cap ∧ B ≤ g ∧ l.length ≤ cap ∧ cap ≤ 9223372036854775807 ∧ w.heap[g]? = some (.cells cur 3 (0, 0)) ∧ ∀ j, j < l.length → w.cell? ⟨g, j, none⟩ = some (.int .i64 (nth l j))
theorem Lst.keep {B : Nat} {v : Value} {l : List Int} {S : List Nat} {w w1 : World} (h : Lst B v l w) (k : Tw S w w1) (hS : ∀ i, i ∈ S → i < B ∨ ∃ c t, w.heap[i]? = some (.cells c t (0, 0)) ∧ t ≠ 3) : Lst B v l w1 := by
  rcases h with h | ⟨g, cap, cur, h1, h2, h3, h4, h5, h6⟩
  · exact .inl h
  · have hg : g ∉ S := fun hm => by
      rcases hS g hm with h | ⟨c, t, hc, ht⟩
      · omega
      · rw [h5] at hc
        injection hc with hc
        injection hc with _ hc _
        exact ht hc.symm
    exact .inr ⟨g, cap, cur, h1, h2, h3, h4, blk_tw h5 k hg, fun j hj => (cell_tw k (lt_hp h5) hg j).trans (h6 j hj)⟩
theorem Lst.mono {B C : Nat} {v : Value} {l : List Int} {w : World} (h : Lst B v l w) (hc : C ≤ B) : Lst C v l w := by
  rcases h with h | ⟨g, cap, cur, h1, h2, h3⟩
  · exact .inl h
  · exact .inr ⟨g, cap, cur, h1, by omega, h3⟩
theorem Lst.form {B : Nat} {v : Value} {l : List Int} {w : World} (h : Lst B v l w) : ∃ a n c, v = .slice a n c := by
  rcases h with h | ⟨g, cap, cur, h1, h2, h3⟩
  · exact ⟨_, _, _, h.1⟩
  · exact ⟨_, _, _, h1⟩
theorem Lst.up {B : Nat} {v : Value} {l : List Int} {w w1 : World} (h : Lst B v l w) (k : Below w.heap.size w w1) : Lst B v l w1 := h.keep (Tw.of (S := []) k) (by simp)
theorem Own.lst {B g n cap : Nat} {l : List Int} {w0 w : World} (h : Own B g n cap l w0 w) : Lst B (.slice (some ⟨g, 0, none⟩) n cap) l w := by
  obtain ⟨cur, hc⟩ := h.blk
  have hk := h.cap
  have hl := h.1
  exact .inr ⟨g, cap, cur, by rw [hl], h.2.1, by omega, hk.2, hc, fun j hj => h.cell j (by omega)⟩
theorem clone_nil (w : World) : Calls Try.prog 22 #[.slice none 0 0] w fun e w' => e = .returned (.slice none 0 0) ∧ w = w' := by
  have hnil : ∀ W, (binOp .eql 34 (.slice none 0 0) (.slice none 0 0)).run Try.prog W = .ok (.bool true) W := fun W => Lib.run_eql_slice_nil W _ _ none 0 0 0 0 Try.underlying34
  go_enter Try.func22, Try.ntmps22
  go_wp2
  go_ret
  exact ⟨rfl, rfl⟩
theorem clone_l (B : Nat) (v : Value) (l : List Int) (w : World) (h : Lst B v l w) (hl : l.length ≤ 1000) : Calls Try.prog 22 #[v] w fun e w' => ∃ v', e = .returned v' ∧ Lst w.heap.size v' l w' ∧ Below w.heap.size w w' := by
  rcases h with ⟨rfl, rfl⟩ | ⟨g, cap, cur, rfl, h2, h3, h4, h5, h6⟩
  · refine (clone_nil w).mono ?_
    rintro e w' ⟨rfl, rfl⟩
    exact ⟨_, rfl, .inl ⟨rfl, rfl⟩, Below.refl _ _⟩
  · refine (clone_any l g 0 cap h3 (by omega) h4 w (lt_hp h5) (by simpa using h6)).mono ?_
    rintro e w' ⟨g2, cap2, rfl, ho⟩
    exact ⟨_, rfl, ho.lst, ho.2.2.2⟩
theorem cells2 {w : World} {p : Nat} {v u : Value} {t : TypeId} (h : w.heap[p]? = some (.cells #[v, u] t (0, 0))) : w.cell? ⟨p, 0, none⟩ = some v ∧ w.cell? ⟨p, 1, none⟩ = some u ∧ ∀ j, w.frozen? ⟨p, j, none⟩ = false :=
  ⟨(cell_of_row w p 0 _ t _ h).trans rfl, (cell_of_row w p 1 _ t _ h).trans rfl, fun j => by simp [World.frozen?, h]⟩
set_option maxHeartbeats 4000000 in
theorem copied_any (B : Nat) (v : Value) (b : Int) (l : List Int) (w : World) (h : Lst B v l w) (hl : l.length ≤ 1000) : Calls Try.prog 18 #[.agg #[.int .i64 b, v]] w fun e w' => ∃ v', e = .returned (.agg #[.int .i64 b, v']) ∧ Lst w.heap.size v' l w' ∧ Below w.heap.size w w' := by
  obtain ⟨a, n, c, rfl⟩ := h.form
  have b1 := bl_al (Below.refl _ w) (.cells #[.int .i64 b, .slice a n c] 36)
  have b2 := bl_al (Below.refl _ (w.alloc (.cells #[.int .i64 b, .slice a n c] 36))) (.cells #[.int .i64 0, .slice none 0 0] 36)
  have E1 := Lib.hid ((b2.block _ (lt_hp (hal_new w (.cells #[.int .i64 b, .slice a n c] 36 (0, 0))))).trans (hal_new w (.cells #[.int .i64 b, .slice a n c] 36 (0, 0))))
  have E2 := Lib.hid (hal_new (w.alloc (.cells #[.int .i64 b, .slice a n c] 36)) (.cells #[.int .i64 0, .slice none 0 0] 36 (0, 0)))
  rw [show (w.alloc (.cells #[.int .i64 b, .slice a n c] 36)).heap.size = w.heap.size + 1 by simp] at E2
  have B0 := Lib.hid (bl_tr b1 b2)
  have LL := Lib.hid (h.up (bl_tr b1 b2))
  clear h b1 b2
  go_enter Try.func18, Try.ntmps18
  go_upto_region 1 with fail
  generalize ((w.alloc (.cells #[.int .i64 b, .slice a n c] 36)).alloc (.cells #[.int .i64 0, .slice none 0 0] 36)) = W2 at *
  have HS := Lib.hid (show w.heap.size ≤ W2.heap.size from B0.out.size)
  have CL := Lib.hid (clone_l B (.slice a n c) l W2.drew LL.out (by omega))
  obtain ⟨c0, c1, cf⟩ := cells2 E1.out
  have PB := Lib.hid B0.out
  clear B0 LL cf
  generalize hsz : w.heap.size = q at *
  have FX := Lib.hid (fun w3 v' (hl2 : Lst W2.drew.heap.size v' l w3) (hb2 : Below W2.drew.heap.size W2.drew w3) => show (∃ a' n' c', v' = .slice a' n' c') ∧ (w3.cell? ⟨q, 0, none⟩ = some (.int .i64 b) ∧ w3.cell? ⟨q, 1, none⟩ = some (.slice a n c)) ∧ w3.heap[q + 1]? = some (.cells #[.int .i64 0, .slice none 0 0] 36 (0, 0)) ∧ Lst q v' l w3 ∧ Below q w w3 from
    ⟨hl2.form, ⟨(cells2 ((hb2.block _ (lt_hp E1.out)).trans E1.out)).1, (cells2 ((hb2.block _ (lt_hp E1.out)).trans E1.out)).2.1⟩, (hb2.block _ (lt_hp E2.out)).trans E2.out, hl2.mono HS.out, PB.out.trans (show Below q W2 w3 from ⟨(hb2.mono HS.out).os, (hb2.mono HS.out).tape, (hb2.mono HS.out).output, (hb2.mono HS.out).size, (hb2.mono HS.out).block⟩)⟩)
  clear E1 E2 PB HS
  go_region_held3 (fun w' => w'.cell? ⟨q, 0, none⟩ = some (.int .i64 b) ∧ w'.cell? ⟨q, 1, none⟩ = some (.slice a n c)) (first | exact ⟨c0, c1⟩ | exact ⟨e0, e1⟩ | (refine ⟨?_, ?_⟩ <;> simp [go_sem, *]))
    (first | (go_at_call 22; (with_reducible refine CL.out.mono ?_); rintro e w3 ⟨v', rfl, hl2, hb2⟩; obtain ⟨⟨a', n', c', rfl⟩, ⟨e0, e1⟩, E3, HL, HB⟩ := FX.out w3 v' hl2 hb2; obtain ⟨d0, d1, df⟩ := cells2 E3; have E3 := Lib.hid E3; have HL := Lib.hid HL; have HB := Lib.hid HB; clear hl2 hb2))
  all_goals
    have E4 := (blk_set (blk_set E3.out 0 (.int .i64 b)) 1 (.slice a' n' c')).trans rfl
    have E4 : ((w3.setCell ⟨q + 1, 0, none⟩ (.int .i64 b)).setCell ⟨q + 1, 1, none⟩ (.slice a' n' c')).heap[q + 1]? = some (.cells #[.int .i64 b, .slice a' n' c'] 36 (0, 0)) := E4
    have TT : Tw [q + 1] w3 ((w3.setCell ⟨q + 1, 0, none⟩ (.int .i64 b)).setCell ⟨q + 1, 1, none⟩ (.slice a' n' c')) := ((Tw.refl _ w3).st (q + 1) (.inl (by simp)) 0 _).st (q + 1) (.inl (by simp)) 1 _
    have HL2 := Lib.hid (HL.out.keep TT (fun i hi => by simp at hi; subst hi; exact .inr ⟨_, _, E3.out, by decide⟩))
    have HB2 := Lib.hid (TT.below HB.out (by intro i hi; simp at hi; omega) (by rw [← hsz]; exact HB.out.size))
    clear e0 e1 d0 d1 df E3 HL HB TT
    generalize (w3.setCell ⟨q + 1, 0, none⟩ (.int .i64 b)).setCell ⟨q + 1, 1, none⟩ (.slice a' n' c') = w5 at *
    obtain ⟨d0, d1, df⟩ := cells2 E4
    clear E4 df CL FX
    go_wp2
    refine bodyPost_ret (by simp [results, Try.results18, go_sem, d0, d1]; rfl) rfl ?_
    exact ⟨_, rfl, by rw [hsz]; exact HL2.out, by rw [hsz]; exact HB2.out⟩
end Go.Proofs.Ytgldgilhegdpjaa

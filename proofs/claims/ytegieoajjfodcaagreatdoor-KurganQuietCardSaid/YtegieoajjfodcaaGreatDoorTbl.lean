/-
  A table of numbers in memory: rows in blocks of their own, listed in one of their own.
-/
import Derived.Test.YtegieoajjfodcaaGreatDoorWord
import Derived.Test.YtegieoajjfodcaaGreatDoorInSrc
import Derived.Test.YtegieoajjfodcaaGreatDoorRScan
import Derived.OwnWalk
import Derived.Deep.AppendLies
import Derived.Maps.AppendAt
import Derived.LoopTactic
namespace Go.Proofs.YtegieoajjfodcaaGreatDoor
open Go.RowKit
set_option linter.unusedVariables false
def rwv (M : Nat → Nat → Int) (n j : Nat) : List Value := (List.range n).map fun b => .int .i64 (M j b)
def upd (M : Nat → Nat → Int) (a b : Nat) (x : Int) (i j : Nat) : Int := if i = a ∧ j = b then x else M i j
theorem rwv_len (M : Nat → Nat → Int) (n j : Nat) : (rwv M n j).length = n := by simp [rwv]
theorem rwv_at (M : Nat → Nat → Int) (n j b : Nat) (h : b < n) : (rwv M n j)[b]? = some (.int .i64 (M j b)) := by unfold rwv; simp [h]
theorem rwv_congr {M M' : Nat → Nat → Int} {n j : Nat} (h : ∀ b, b < n → M j b = M' j b) : rwv M n j = rwv M' n j := by
  unfold rwv
  apply List.map_congr_left
  intro b hb
  rw [h b (List.mem_range.1 hb)]
theorem rwv_set (M : Nat → Nat → Int) (n a b : Nat) (x : Int) : (rwv M n a).set b (.int .i64 x) = rwv (upd M a b x) n a := by
  apply List.ext_getElem
  · simp [rwv]
  · intro j h1 h2
    rw [List.getElem_set]
    by_cases e : b = j
    · subst e; simp [rwv, upd]
    · simp [rwv, upd, e, show ¬ j = b by omega]
theorem rwv_zero (n a : Nat) : rwv (fun _ _ => 0) n a = List.replicate n (.int .i64 0) := by unfold rwv; apply List.ext_getElem <;> simp
def tl (gs : Nat → Nat) (n a : Nat) : List Value := (List.range n).map fun j => if j < a then .slice (some ⟨gs j, 0, none⟩) n n else .slice none 0 0
theorem tl_set (gs : Nat → Nat) (n a g : Nat) : (tl gs n a).set a (.slice (some ⟨g, 0, none⟩) n n) = tl (fun j => if j = a then g else gs j) n (a + 1) := by
  apply List.ext_getElem
  · simp [tl]
  · intro j h1 h2
    rw [List.getElem_set]
    by_cases e : a = j
    · subst e; simp [tl]
    · have : j < a ↔ j < a + 1 := by omega
      simp [tl, e, this, show ¬ j = a by omega]
theorem tl_at (gs : Nat → Nat) (n a j : Nat) (hj : j < n) : (tl gs n a)[j]? = some (if j < a then .slice (some ⟨gs j, 0, none⟩) n n else .slice none 0 0) := by unfold tl; simp [hj]
theorem tl_nil (gs : Nat → Nat) (n : Nat) : tl gs n 0 = List.replicate n (.slice none 0 0) := by unfold tl; apply List.ext_getElem <;> simp
attribute [irreducible] rwv tl upd
theorem row_kindE {w : World} {B n size : Nat} {e : TypeId} {v : Value} {xs : List Value} (h : w.ownsRow B e size v n xs) {x : Nat} (hx : v.ownBlock = some x) : ∃ cur, w.heap[x]? = some (.cells cur e (0, 0)) := by
  rcases h.2 with ⟨rfl, _⟩ | ⟨g, cap, cur, rfl, _, hg, _⟩
  · cases hx
  · injection hx with hx
    subst hx
    exact ⟨cur, hg⟩
theorem row_neE {w : World} {B n b size : Nat} {e : TypeId} {v : Value} {xs : List Value} {cs : Array Value} {t : TypeId} (h : w.ownsRow B e size v n xs) (hb : w.heap[b]? = some (.cells cs t (0, 0))) (ht : t ≠ e) : v.ownBlock ≠ some b := fun q => by
  obtain ⟨cur, hc⟩ := row_kindE h q
  exact ip.blk_ne hb hc ht rfl
/-- a table in memory, from B on -/
structure TBL (B gc n : Nat) (gs : Nat → Nat) (M : Nat → Nat → Int) (w : World) : Prop where
  top : w.ownsRow B 27 1 (.slice (some ⟨gc, 0, none⟩) n n) n (tl gs n n)
  rows : ∀ j, j < n → w.ownsRow B 3 1 (.slice (some ⟨gs j, 0, none⟩) n n) n (rwv M n j)
  inj : ∀ i j, i < n → j < n → gs i = gs j → i = j
theorem TBL.congr {B gc n : Nat} {gs : Nat → Nat} {M M' : Nat → Nat → Int} {w : World} (h : TBL B gc n gs M w) (hM : ∀ i j, i < n → j < n → M i j = M' i j) : TBL B gc n gs M' w :=
  ⟨h.top, fun j hj => by rw [← rwv_congr (M := M) (M' := M') (fun b hb => hM j b hj hb)]; exact h.rows j hj, h.inj⟩
theorem TBL.kept {B gc n b : Nat} {gs : Nat → Nat} {M : Nat → Nat → Int} {w w' : World} (h : TBL B gc n gs M w) (hg : w.grownBy w' (some b)) {cs : Array Value} (hb : w.heap[b]? = some (.cells cs 62 (0, 0))) : TBL B gc n gs M w' :=
  ⟨h.top.kept hg (.inr (row_neE h.top hb (by decide))), fun j hj => (h.rows j hj).kept hg (.inr (row_neE (h.rows j hj) hb (by decide))), h.inj⟩
theorem TBL.drew {B gc n : Nat} {gs : Nat → Nat} {M : Nat → Nat → Int} {w : World} (h : TBL B gc n gs M w) : TBL B gc n gs M w.drew := ⟨h.top, h.rows, h.inj⟩
theorem TBL.up {B gc n : Nat} {gs : Nat → Nat} {M : Nat → Nat → Int} {w w' : World} (h : TBL B gc n gs M w) (hb : Below w.heap.size w w') : TBL B gc n gs M w' :=
  ⟨ownsRow_up h.top hb, fun j hj => ownsRow_up (h.rows j hj) hb, h.inj⟩
theorem TBL.store {B gc n : Nat} {gs : Nat → Nat} {M : Nat → Nat → Int} {w : World} (h : TBL B gc n gs M w) {a b : Nat} (ha : a < n) (hb : b < n) (x : Int) : TBL B gc n gs (upd M a b x) (w.setCell ⟨gs a, b, none⟩ (.int .i64 x)) := by
  obtain ⟨cur, hc⟩ := row_kindE (h.rows a ha) rfl
  refine ⟨ownsRow_setCell_other (a := ⟨gs a, b, none⟩) h.top (fun e => row_neE h.top hc (by decide) e) _, fun j hj => ?_, h.inj⟩
  by_cases e : j = a
  · subst e
    rw [← rwv_set]
    exact ((h.rows j hj).stored b _).1
  · rw [← rwv_congr (M := M) (fun c hcn => by unfold upd; rw [if_neg (fun q => e q.1)])]
    exact ownsRow_setCell_other (a := ⟨gs a, b, none⟩) (h.rows j hj) (fun q => e (h.inj j a hj ha (by injection q))) _
theorem TBL.rowAt {B gc n : Nat} {gs : Nat → Nat} {M : Nat → Nat → Int} {w : World} (h : TBL B gc n gs M w) {a : Nat} (ha : a < n) : w.cell? ⟨gc, a, none⟩ = some (.slice (some ⟨gs a, 0, none⟩) n n) := by
  rw [h.top.cellAt a (by omega), tl_at _ _ _ _ ha, if_pos ha]
theorem TBL.cellAt {B gc n : Nat} {gs : Nat → Nat} {M : Nat → Nat → Int} {w : World} (h : TBL B gc n gs M w) {a b : Nat} (ha : a < n) (hb : b < n) : w.cell? ⟨gs a, b, none⟩ = some (.int .i64 (M a b)) := by
  rw [(h.rows a ha).cellAt b (by omega), rwv_at _ _ _ _ hb]
theorem TBL.frozen {B gc n : Nat} {gs : Nat → Nat} {M : Nat → Nat → Int} {w : World} (h : TBL B gc n gs M w) {a : Nat} (ha : a < n) (b : Nat) : w.frozen? ⟨gs a, b, none⟩ = false := (h.rows a ha).frozenAt b
/-- what lies below B is as it was, but for the reader's box -/
structure Up (B b : Nat) (w w' : World) : Prop where
  os : w'.os = w.os
  tape : w'.tape = w.tape
  output : w'.output = w.output
  size : w.heap.size ≤ w'.heap.size
  block : ∀ k, k < B → k ≠ b → w'.heap[k]? = w.heap[k]?
theorem Up.refl (B b : Nat) (w : World) : Up B b w w := ⟨rfl, rfl, rfl, Nat.le_refl _, fun _ _ _ => rfl⟩
theorem Up.call {B b : Nat} {w w1 w2 : World} (h : Up B b w w1) (hB : B ≤ w1.heap.size) (hg : w1.grownBy w2 (some b)) : Up B b w w2 :=
  ⟨hg.os.trans h.os, hg.tape.trans h.tape, hg.output.trans h.output, Nat.le_trans h.size hg.size, fun k hk hne => (hg.block k (by omega) (fun e => hne (by injection e))).trans (h.block k hk hne)⟩
theorem Up.drew {B b : Nat} {w w1 : World} (h : Up B b w w1) : Up B b w w1.drew := ⟨h.os, h.tape, h.output, h.size, h.block⟩
theorem Up.set {B b : Nat} {w w1 : World} (h : Up B b w w1) {q : Nat} (hq : B ≤ q) (j : Nat) (v : Value) : Up B b w (w1.setCell ⟨q, j, none⟩ v) :=
  ⟨h.os, h.tape, h.output, by simpa [World.setCell] using h.size, fun k hk hne => (heap_setCell_other w1 ⟨q, j, none⟩ k v (by show k ≠ q; omega)).trans (h.block k hk hne)⟩
/-- a table that is being read, and the reader -/
structure FS (b g C : Nat) (T : List Tok) (B gc n : Nat) (gs : Nat → Nat) (s : St) (M : Nat → Nat → Int) (w wr : World) : Prop where
  rd : RS b g C T s wr
  tb : TBL B gc n gs M wr
  up : Up B b w wr
  base : B ≤ wr.heap.size
theorem FS.call {b g C : Nat} {T : List Tok} {B gc n : Nat} {gs : Nat → Nat} {s s' : St} {M : Nat → Nat → Int} {w wr w1 : World} (h : FS b g C T B gc n gs s M w wr) (hr : RS b g C T s' w1) (hg : wr.grownBy w1 (some b)) : FS b g C T B gc n gs s' M w w1 :=
  ⟨hr, h.tb.kept hg (by have := h.rd.box; unfold RD at this; exact this), h.up.call h.base hg, Nat.le_trans h.base hg.size⟩
theorem FS.drew {b g C : Nat} {T : List Tok} {B gc n : Nat} {gs : Nat → Nat} {s : St} {M : Nat → Nat → Int} {w wr : World} (h : FS b g C T B gc n gs s M w wr) : FS b g C T B gc n gs s M w wr.drew := ⟨h.rd.drew, h.tb.drew, h.up.drew, h.base⟩
theorem FS.store {b g C : Nat} {T : List Tok} {B gc n : Nat} {gs : Nat → Nat} {s : St} {M : Nat → Nat → Int} {w wr : World} (h : FS b g C T B gc n gs s M w wr) {a c : Nat} (ha : a < n) (hc : c < n) (x : Int) : FS b g C T B gc n gs s (upd M a c x) w (wr.setCell ⟨gs a, c, none⟩ (.int .i64 x)) := by
  obtain ⟨cur, hk⟩ := row_kindE (h.tb.rows a ha) rfl
  obtain ⟨h1, h2⟩ := h.rd.far hk (by decide) (by decide)
  exact ⟨h.rd.set h1 h2 _ _, h.tb.store ha hc x, h.up.set ((h.tb.rows a ha).lt (gs a) rfl).1 _ _, by simpa [World.setCell] using h.base⟩
theorem FS.congr {b g C : Nat} {T : List Tok} {B gc n : Nat} {gs : Nat → Nat} {s : St} {M M' : Nat → Nat → Int} {w wr : World} (h : FS b g C T B gc n gs s M w wr) (hM : ∀ i j, i < n → j < n → M i j = M' i j) : FS b g C T B gc n gs s M' w wr := ⟨h.rd, h.tb.congr hM, h.up, h.base⟩
end Go.Proofs.YtegieoajjfodcaaGreatDoor

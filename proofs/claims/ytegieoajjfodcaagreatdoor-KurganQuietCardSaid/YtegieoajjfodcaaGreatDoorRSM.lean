/-
  The reader over a whole row of tokens: entry, nought, size and end by what they leave of the place and the fault.
-/
import Derived.Test.YtegieoajjfodcaaGreatDoorPM
import Derived.Laws.AppendOwn
import Derived.Laws.OwnMore
namespace Go.Proofs.YtegieoajjfodcaaGreatDoor
open Go.RowKit
set_option linter.unusedVariables false
theorem encL_len : ∀ l : List Tok, (encL l).length = l.length * 4
  | [] => rfl
  | a :: l => by have := encL_len l; simp [encL, encT] at this ⊢; omega
theorem encL_get : ∀ (l : List Tok) (i : Nat) (t : Tok) (j : Nat) (u : Value), l[i]? = some t → (encT t)[j]? = some u → (encL l)[i * 4 + j]? = some u
  | [], i, t, j, u, h, _ => by simp at h
  | a :: l, 0, t, j, u, h, h2 => by
    simp at h; subst h
    have hj : j < 4 := (List.getElem?_eq_some_iff.1 h2).1
    show (encT a ++ encL l)[0 * 4 + j]? = some u
    rw [List.getElem?_append_left (by show 0 * 4 + j < 4; omega), show 0 * 4 + j = j by omega]; exact h2
  | a :: l, i + 1, t, j, u, h, h2 => by
    have := encL_get l i t j u (by simpa using h) h2
    show (encT a ++ encL l)[(i + 1) * 4 + j]? = some u
    rw [List.getElem?_append_right (by show 4 ≤ (i + 1) * 4 + j; omega), show (i + 1) * 4 + j - (encT a).length = i * 4 + j by show (i + 1) * 4 + j - 4 = i * 4 + j; omega]; exact this
/-- a row of tokens in a block -/
def TB (g : Nat) (T : List Tok) (w : World) : Prop := ∃ cur : Array Value, w.heap[g]? = some (.cells cur 65 (0, 0)) ∧ ∀ j, j < T.length * 4 → cur[j]? = (encL T)[j]?
/-- the reader b over the tokens T in block g, in state s -/
structure RS (b g C : Nat) (T : List Tok) (s : St) (w : World) : Prop where
  box : RD b g (4 * s.p) (T.length - s.p) (C - s.p) s.f w
  toks : TB g T w
  lt : s.p < T.length
  cap : T.length ≤ C
  form : Toks T
theorem grew {b : Nat} {w w' : World} (h : Ch1 b w w') : w.grownBy w' (some b) := ⟨h.os, h.tape, h.output, h.size, fun k hk hne => h.block k hk (fun e => hne (by rw [e]))⟩
theorem TB.front {g : Nat} {T : List Tok} {w : World} (h : TB g T w) {p : Nat} (hp : p < T.length) : Front g (4 * p) (tk T p) w := by
  obtain ⟨cur, h1, h2⟩ := h
  have ht : T[p]? = some (tk T p) := by unfold tk; rw [List.getElem?_eq_getElem hp]; rfl
  have hc : ∀ j u, (encT (tk T p))[j]? = some u → w.cell? ⟨g, 4 * p + j, none⟩ = some u := fun j u hj => by
    have hj4 : j < 4 := (List.getElem?_eq_some_iff.1 hj).1
    rw [show 4 * p + j = p * 4 + j by omega, cell_of_row _ _ _ _ _ _ h1, h2 _ (by omega)]
    exact encL_get T p _ j u ht hj
  exact ⟨hc 0 _ rfl, hc 1 _ rfl, hc 2 _ rfl, hc 3 _ rfl⟩
theorem RS.keep {b g C : Nat} {T : List Tok} {s : St} {w w' : World} (h : RS b g C T s w) (hb : w'.heap[b]? = w.heap[b]?) (hg : w'.heap[g]? = w.heap[g]?) : RS b g C T s w' :=
  ⟨hb.trans h.box, by obtain ⟨cur, h1, h2⟩ := h.toks; exact ⟨cur, hg.trans h1, h2⟩, h.lt, h.cap, h.form⟩
theorem RS.ne {b g C : Nat} {T : List Tok} {s : St} {w : World} (h : RS b g C T s w) : g ≠ b := by
  obtain ⟨cur, h1, _⟩ := h.toks
  rintro rfl
  have h2 := h.box
  unfold RD at h2
  rw [h1] at h2
  injection h2 with h2
  injection h2 with _ h2
  exact absurd h2 (by decide)
/-- a block of another type is neither the reader's nor the tokens' -/
theorem RS.far {b g C : Nat} {T : List Tok} {s : St} {w : World} (h : RS b g C T s w) {x : Nat} {cs : Array Value} {t : TypeId} (hx : w.heap[x]? = some (.cells cs t (0, 0))) (h1 : t ≠ 62) (h2 : t ≠ 65) : x ≠ b ∧ x ≠ g := by
  obtain ⟨cur, q1, _⟩ := h.toks
  have q2 := h.box
  unfold RD at q2
  refine ⟨?_, ?_⟩
  · rintro rfl; rw [hx] at q2; injection q2 with q2; injection q2 with _ q2; exact h1 q2
  · rintro rfl; rw [hx] at q1; injection q1 with q1; injection q1 with _ q1; exact h2 q1
theorem RS.ltb {b g C : Nat} {T : List Tok} {s : St} {w : World} (h : RS b g C T s w) : b < w.heap.size ∧ g < w.heap.size := by
  obtain ⟨cur, q1, _⟩ := h.toks
  have q2 := h.box
  unfold RD at q2
  exact ⟨lt_blk q2, lt_blk q1⟩
theorem RS.up {b g C : Nat} {T : List Tok} {s : St} {w w' : World} (h : RS b g C T s w) (hb : Below w.heap.size w w') : RS b g C T s w' := h.keep (hb.block _ h.ltb.1) (hb.block _ h.ltb.2)
theorem RS.alloc {b g C : Nat} {T : List Tok} {s : St} {w : World} (h : RS b g C T s w) (o : Obj) : RS b g C T s (w.alloc o) := h.keep (Below.heap_alloc w o _ h.ltb.1) (Below.heap_alloc w o _ h.ltb.2)
theorem RS.drew {b g C : Nat} {T : List Tok} {s : St} {w : World} (h : RS b g C T s w) : RS b g C T s w.drew := h.keep rfl rfl
theorem RS.set {b g C : Nat} {T : List Tok} {s : St} {w : World} (h : RS b g C T s w) {x : Nat} (h1 : x ≠ b) (h2 : x ≠ g) (j : Nat) (v : Value) : RS b g C T s (w.setCell ⟨x, j, none⟩ v) :=
  h.keep (heap_setCell_other w ⟨x, j, none⟩ b v (Ne.symm h1)) (heap_setCell_other w ⟨x, j, none⟩ g v (Ne.symm h2))
/-- what a step that found e wrong leaves -/
theorem RS.went {b g C : Nat} {T : List Tok} {s : St} {w w' : World} (h : RS b g C T s w) {e : Int} (he : e = 0 → (tk T s.p).kind ≠ 3) (hW : Went b g (4 * s.p) (T.length - s.p - 1) (C - s.p - 1) s.f e w') (hC : Ch1 b w w') : RS b g C T (adv s e) w' := by
  have hl := h.lt
  have hc := h.cap
  obtain ⟨hlb, hlg⟩ := h.ltb
  have ht : TB g T w' := by obtain ⟨cur, h1, h2⟩ := h.toks; exact ⟨cur, (hC.block g hlg h.ne).trans h1, h2⟩
  have e1 : T.length - s.p - 1 + 1 = T.length - s.p := by omega
  have e2 : C - s.p - 1 + 1 = C - s.p := by omega
  unfold Went at hW
  by_cases hf : s.f = 0
  · rw [if_pos hf] at hW
    by_cases h0 : e = 0
    · rw [if_pos h0] at hW
      have hm := h.form.more hl (he h0)
      subst h0
      rw [adv_ok hf]
      refine ⟨?_, ht, hm, hc, h.form⟩
      show RD b g (4 * (s.p + 1)) (T.length - (s.p + 1)) (C - (s.p + 1)) 0 w'
      rw [show 4 * (s.p + 1) = 4 * s.p + 4 by omega, show T.length - (s.p + 1) = T.length - s.p - 1 by omega, show C - (s.p + 1) = C - s.p - 1 by omega]
      exact hW
    · rw [if_neg h0, e1, e2] at hW
      rw [adv_err hf h0]
      exact ⟨hW, ht, hl, hc, h.form⟩
  · rw [if_neg hf, e1, e2] at hW
    rw [adv_bad hf]
    exact ⟨hW, ht, hl, hc, h.form⟩
theorem RS.box1 {b g C : Nat} {T : List Tok} {s : St} {w : World} (h : RS b g C T s w) : RD b g (4 * s.p) (T.length - s.p - 1 + 1) (C - s.p - 1 + 1) s.f w := by
  have hl := h.lt
  have hc := h.cap
  rw [show T.length - s.p - 1 + 1 = T.length - s.p by omega, show C - s.p - 1 + 1 = C - s.p by omega]
  exact h.box
/-- what is wrong with an entry -/
def eE (t : Tok) : Int := nf t.kind t.num 2147483647
theorem eE_go {t : Tok} (h : eE t = 0) : t.kind ≠ 3 := fun k => nf_end k h
theorem entry_s (b g C : Nat) (T : List Tok) (s : St) (w : World) (h : RS b g C T s w) :
    Calls Tryz.prog 80 #[.pointer (some ⟨b, 0, none⟩)] w fun r w' => r = .returned (.int .i64 (tk T s.p).num) ∧ RS b g C T (adv s (eE (tk T s.p))) w' ∧ w.grownBy w' (some b) := by
  have hl := h.lt
  have hc := h.cap
  refine (entry_rd b g (4 * s.p) (T.length - s.p - 1) (C - s.p - 1) s.f (tk T s.p) (fun k => by have := h.form.more hl k; omega) (by omega) w h.box1 (h.toks.front hl)).mono ?_
  rintro r w' ⟨rfl, hW, hC⟩
  exact ⟨rfl, h.went eE_go hW hC, grew hC⟩
theorem zf_go {t : Tok} (h : zf t = 0) : t.kind ≠ 3 := fun k => nf_end k (zf_ok h).1
theorem nought_s (b g C : Nat) (T : List Tok) (s : St) (w : World) (h : RS b g C T s w) :
    Calls Tryz.prog 142 #[.pointer (some ⟨b, 0, none⟩)] w fun r w' => r = .returned (.tuple #[]) ∧ RS b g C T (adv s (zf (tk T s.p))) w' ∧ w.grownBy w' (some b) := by
  have hl := h.lt
  have hc := h.cap
  refine (nought_rd b g (4 * s.p) (T.length - s.p - 1) (C - s.p - 1) s.f (tk T s.p) (fun k => by have := h.form.more hl k; omega) (by omega) w h.box1 (h.toks.front hl)).mono ?_
  rintro r w' ⟨rfl, hW, hC⟩
  exact ⟨rfl, h.went zf_go hW hC, grew hC⟩
theorem sf_go {t : Tok} {most : Int} (h : sf t most = 0) : t.kind ≠ 3 := fun k => nf_end k (sf_ok h).1
theorem size_s (b g C : Nat) (T : List Tok) (s : St) (most : Int) (w : World) (h : RS b g C T s w) :
    Calls Tryz.prog 78 #[.pointer (some ⟨b, 0, none⟩), .int .i64 most] w fun r w' => r = .returned (.int .i64 (if s.f = 0 ∧ sf (tk T s.p) most = 0 then (tk T s.p).num else 0)) ∧ RS b g C T (adv s (sf (tk T s.p) most)) w' ∧ w.grownBy w' (some b) := by
  have hl := h.lt
  have hc := h.cap
  refine (size_rd b g (4 * s.p) (T.length - s.p - 1) (C - s.p - 1) s.f (tk T s.p) most (fun k => by have := h.form.more hl k; omega) (by omega) w h.box1 (h.toks.front hl)).mono ?_
  rintro r w' ⟨rfl, hW, hC⟩
  exact ⟨rfl, h.went sf_go hW hC, grew hC⟩
/-- what is wrong where the End must be -/
def tf (t : Tok) : Int := if t.kind = 3 then 0 else 7
/-- end: where it stays -/
def fin (T : List Tok) (s : St) : St := if (tk T s.p).kind = 3 then s else adv s 7
theorem end_s (b g C : Nat) (T : List Tok) (s : St) (w : World) (h : RS b g C T s w) :
    Calls Tryz.prog 21 #[.pointer (some ⟨b, 0, none⟩)] w fun r w' => r = .returned (.tuple #[]) ∧ RS b g C T (fin T s) w' ∧ w.grownBy w' (some b) := by
  have hl := h.lt
  have hc := h.cap
  unfold fin
  by_cases hk : (tk T s.p).kind = 3
  · rw [if_pos hk]
    refine (end_stay b g (4 * s.p) (T.length - s.p - 1) (C - s.p - 1) s.f (tk T s.p) w h.box1 (h.toks.front hl) hk).mono ?_
    rintro r w' ⟨rfl, rfl⟩
    exact ⟨rfl, h, ⟨rfl, rfl, rfl, Nat.le_refl _, fun _ _ _ => rfl⟩⟩
  · rw [if_neg hk]
    refine (end_tail b g (4 * s.p) (T.length - s.p - 1) (C - s.p - 1) s.f (tk T s.p) (by omega) w h.box1 (h.toks.front hl) hk).mono ?_
    rintro r w' ⟨rfl, hW, hC⟩
    exact ⟨rfl, h.went (fun e => absurd e (by decide)) hW hC, grew hC⟩
end Go.Proofs.YtegieoajjfodcaaGreatDoor

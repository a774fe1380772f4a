/-
  What inst.copyList answers; lists of numbers that may lie nowhere when they are empty.
-/
import Derived.Test.YtlhpiikpmmlpeaaDoorKb
namespace Go.Proofs.YtlhpiikpmmlpeaaDoor
open Go.RowKit
set_option linter.unusedVariables false
/-- a list of numbers in a block of its own, from block B on; an empty one may lie nowhere -/
def LO (B : Nat) (W : World) (a : Option Addr) (l : List Int) : Prop := l = [] ∨ ∃ g, a = some ⟨g, 0, none⟩ ∧ IntsO W g l ∧ B ≤ g
theorem LO.same {B : Nat} {W W1 : World} {a : Option Addr} {l : List Int} (h : LO B W a l) (he : ∀ g cur, W.heap[g]? = some (.cells cur 3 (0, 0)) → B ≤ g → W1.heap[g]? = W.heap[g]?) : LO B W1 a l := by
  rcases h with h | ⟨g, e, ⟨cur, h1, h2⟩, hb⟩
  · exact .inl h
  · exact .inr ⟨g, e, ⟨cur, (he g cur h1 hb).trans h1, h2⟩, hb⟩
theorem LO.keep {B : Nat} {W W1 : World} {a : Option Addr} {l : List Int} (h : LO B W a l) (hb : Below W.heap.size W W1) : LO B W1 a l := h.same fun g cur h1 _ => hb.block _ (lt_hp h1)
theorem LO.mono {B B1 : Nat} {W : World} {a : Option Addr} {l : List Int} (h : LO B W a l) (hb : B1 ≤ B) : LO B1 W a l := by
  rcases h with h | ⟨g, e, h1, h2⟩
  · exact .inl h
  · exact .inr ⟨g, e, h1, Nat.le_trans hb h2⟩
theorem LO.ints {B : Nat} {W : World} {a : Option Addr} {l : List Int} (h : LO B W a l) : Ints W a l := by
  rcases h with rfl | ⟨g, rfl, h1, h2⟩
  · intro j hj; simp at hj
  · exact h1.ints
theorem nil_cap (w : World) : (World.ownsRow w w.heap.size 3 1 (.slice none 0 0) 0 []) := World.ownsRow_nil _ _ _ _
set_option maxRecDepth 1000000 in
set_option maxHeartbeats 1000000 in
theorem clist_at (x : Addr) (c : Nat) (l : List Int) (hl : l.length ≤ 1000) (w : World) (h : Ints w (some x) l) :
    Calls Tryd.prog 76 #[.slice (some x) l.length c] w fun e w' => ∃ a2 c2, e = .returned (.slice a2 l.length c2) ∧ Below w.heap.size w w' ∧ LO w.heap.size w' a2 l := by
  obtain ⟨i0, hi, hz0, hz1, hz2⟩ := info_parts info3
  have ho := nil_cap w
  by_cases h0 : l = []
  · subst h0
    go_enter Tryd.func76, Tryd.ntmps76
    go_wp2_with (at_builtin; refine wpList_append_own _ rfl _ _ 22 rfl w.heap.size 3 i0 (.int .i64 0) 1 8 Tryd.underlying22 hi hz0 hz1 hz2 rfl (by decide) _ _ _ rfl ho x 0 c [] rfl rfl (fun j u h => by simp at h) (by simp) (by decide) (by decide) (Nat.le_refl _) ?_)
    intro v' w1 hown hgrow hne
    have hv : v' = .slice none 0 0 := hne
    subst hv
    have hb : Below w.heap.size w w1 := ⟨hgrow.os, hgrow.tape, hgrow.output, hgrow.size, fun i hi => hgrow.block i hi (by simp [Value.ownBlock])⟩
    clear hown hgrow hne
    go_wp2
    go_ret
    exact ⟨none, 0, rfl, hb, .inl rfl⟩
  · have hp : 0 < l.length := List.length_pos_iff.2 h0
    obtain ⟨b, o, hx, hb, -⟩ := h 0 hp
    injection hx with hx
    subst hx
    have HN : ∀ j u, (l.map (Value.int .i64))[j]? = some u → w.cell? ((⟨b, o, none⟩ : Addr).add j) = some u := fun j u hj => by
      rw [List.getElem?_map] at hj
      have hlt : j < l.length := by
        rcases Nat.lt_or_ge j l.length with h | h
        · exact h
        · rw [List.getElem?_eq_none h] at hj; cases hj
      obtain ⟨b2, o2, e2, _, h2⟩ := h j hlt
      injection e2 with e2; injection e2 with e2 e3; subst e2 e3
      rw [List.getElem?_eq_getElem hlt] at hj h2
      simp at hj h2
      rw [← hj]
      have e : (⟨b, o, none⟩ : Addr).add j = ⟨b, o + j, none⟩ := by unfold Addr.add; split <;> simp_all
      rw [e]; exact h2
    have HNh := Lib.hid HN
    clear HN h
    obtain ⟨m, hm⟩ : ∃ m, l.length = m := ⟨_, rfl⟩
    rw [hm] at hl hp ⊢
    go_enter Tryd.func76, Tryd.ntmps76
    go_wp2_with (at_builtin; refine wpList_append_own _ rfl _ _ 22 rfl w.heap.size 3 i0 (.int .i64 0) 1 8 Tryd.underlying22 hi hz0 hz1 hz2 rfl (by decide) _ _ _ rfl ho ⟨b, o, none⟩ _ c (l.map (Value.int .i64)) rfl (by simp [hm]) HNh.out (by simp [Value.oneCell']) (by unfold maxLen; omega) (by omega) (Nat.le_refl _) ?_)
    intro v' w1 hown hgrow hne
    obtain ⟨g, cap, rfl⟩ := own_form hown (fun e => by have := hne.1 e; omega)
    have hg := hown.lt g rfl
    have hio : IntsO w1 g l := ints_own hm hown
    have hb2 : Below w.heap.size w w1 := ⟨hgrow.os, hgrow.tape, hgrow.output, hgrow.size, fun i hi => hgrow.block i hi (by simp [Value.ownBlock])⟩
    clear hown hgrow hne
    go_wp2
    go_ret
    exact ⟨_, cap, rfl, hb2, .inr ⟨g, rfl, hio, hg.1⟩⟩
/-- nothing appended to nothing -/
theorem wpList_nil2 {ops : Array Oper} {rest : List Oper} {o : Oper} {A : Act} {X : World} {Q : Exit → Act → World → Prop} (hgd : o.guard = none) (s x : Operand) (ho : o.op = .call { callee := .builtin .append, args := #[s, x], argTypes := #[22, 22] }) (hty : o.type = 22)
    (c : Nat) (he : A.eval s = .slice none 0 0) (hx : A.eval x = .slice none 0 c)
    (h : wpList Tryd.prog ops Q rest (A.put o.dst (.slice none 0 0)) X) : wpList Tryd.prog ops Q (o :: rest) A X :=
  wpList_plain hgd fun K hK => by
    obtain ⟨i0, hi, hz0, hz1, hz2⟩ := info_parts info3
    have hr : (Builtin.append_ #[22, 22] 22 #[.slice none 0 0, .slice none 0 c]).run Tryd.prog X = .ok (.slice none 0 0) X := by
      simp [Builtin.append_, run_underlying Tryd.underlying22, sizeOf, typeInfo, zeroValue, hi, hz0, Builtin.lenOf, Question.forced, run_firstCells_none]
      try simp [storeCells]
    unfold Oper.wp execOp
    simp only [ho, hty, resolve, invoke, builtin, Sem.run_bind, Sem.run_pure, Result.andThen_ok, List.map_toArray, List.map_cons, List.map_nil, he, hx, hr]
    exact hK _ _ h
set_option maxRecDepth 1000000 in
set_option maxHeartbeats 1000000 in
theorem clist_any (a : Option Addr) (c : Nat) (l : List Int) (hl : l.length ≤ 1000) (w : World) (h : Ints w a l) :
    Calls Tryd.prog 76 #[.slice a l.length c] w fun e w' => ∃ a2 c2, e = .returned (.slice a2 l.length c2) ∧ Below w.heap.size w w' ∧ LO w.heap.size w' a2 l := by
  cases a with
  | some x => exact clist_at x c l hl w h
  | none =>
    have h0 : l = [] := by
      cases l with
      | nil => rfl
      | cons y ys =>
        obtain ⟨b, o, e, _⟩ := h 0 (by simp)
        cases e
    subst h0
    go_enter Tryd.func76, Tryd.ntmps76
    go_wp2_with (at_builtin; refine wpList_nil2 rfl _ _ rfl rfl c rfl rfl ?_)
    go_ret
    exact ⟨none, 0, rfl, Below.refl _ _, .inl rfl⟩
end Go.Proofs.YtlhpiikpmmlpeaaDoor

/-
  Lists of rows that a law builds: in memory, under appends, cut short, and what they count to.
-/
import Derived.Test.YtlhpiikpmmlpeaaDoorKb
import Derived.Test.YtlhpiikpmmlpeaaDoorLoop
namespace Go.Proofs.YtlhpiikpmmlpeaaDoor.kn
open Go.RowKit
set_option linter.unusedVariables false
/-- rows in blocks of their own (from B0 on, ahead of H), and the list of them (from B on) -/
def MXg (B B0 H : Nat) (v : Value) (M : List (List Int)) (W : World) : Prop :=
  ∃ ws : List Value, W.ownsRow B 22 1 v M.length ws ∧ ws.length = M.length ∧ ∀ j, j < M.length → ∃ r, ws[j]? = some r ∧ Ol B0 r (M[j]?.getD []) W ∧ ∀ i, i ∈ vb r → i < H
theorem mxg_nil (B B0 H : Nat) (W : World) : MXg B B0 H (.slice none 0 0) [] W := ⟨[], World.ownsRow_nil _ _ _ _, rfl, fun j hj => absurd hj (by simp)⟩
theorem MXg.up {B B0 H H' : Nat} {v : Value} {M : List (List Int)} {W : World} (h : MXg B B0 H v M W) (hH : H ≤ H') : MXg B B0 H' v M W := by
  obtain ⟨ws, h1, h2, h3⟩ := h
  refine ⟨ws, h1, h2, fun j hj => ?_⟩
  obtain ⟨r, e1, e2, e3⟩ := h3 j hj
  exact ⟨r, e1, e2, fun i hi => Nat.lt_of_lt_of_le (e3 i hi) hH⟩
theorem MXg.top {B B0 H : Nat} {v : Value} {M : List (List Int)} {W : World} (h : MXg B B0 H v M W) : MXg B B0 W.heap.size v M W := by
  obtain ⟨ws, h1, h2, h3⟩ := h
  refine ⟨ws, h1, h2, fun j hj => ?_⟩
  obtain ⟨r, e1, e2, e3⟩ := h3 j hj
  refine ⟨r, e1, e2, fun i hi => ?_⟩
  obtain ⟨_, cur, hc⟩ := e2.blk i hi
  exact lt_hp hc
theorem own_mono {B C : Nat} {e : TypeId} {v : Value} {n : Nat} {xs : List Value} {W : World} (h : W.ownsRow B e 1 v n xs) (hc : C ≤ B) : W.ownsRow C e 1 v n xs := by
  refine ⟨h.1, ?_⟩
  rcases h.2 with hn | ⟨g, cap, cur, hv, hg, r⟩
  · exact .inl hn
  · exact .inr ⟨g, cap, cur, hv, Nat.le_trans hc hg, r⟩
theorem MXg.mono {B C B0 H : Nat} {v : Value} {M : List (List Int)} {W : World} (h : MXg B B0 H v M W) (hc : C ≤ B) : MXg C B0 H v M W := by
  obtain ⟨ws, h1, h2, h3⟩ := h
  exact ⟨ws, own_mono h1 hc, h2, h3⟩
/-- the list's own block -/
theorem MXg.blk {B B0 H : Nat} {v : Value} {M : List (List Int)} {W : World} (h : MXg B B0 H v M W) : ∀ i, i ∈ vb v → B ≤ i ∧ ∃ cur, W.heap[i]? = some (.cells cur 22 (0, 0)) := fun i hi => by
  obtain ⟨ws, h1, _⟩ := h
  rcases h1.2 with ⟨rfl, _⟩ | ⟨g, cap, cur, rfl, hg, hh, r⟩
  · simp [vb] at hi
  · simp [vb] at hi
    subst hi
    exact ⟨hg, cur, hh⟩
theorem own_tw {B : Nat} {e : TypeId} {v : Value} {n : Nat} {xs : List Value} {S : List Nat} {W W1 : World} (h : W.ownsRow B e 1 v n xs) (k : Tw S W W1) (hS : ∀ i, i ∈ S → i ∉ vb v) : W1.ownsRow B e 1 v n xs := by
  refine ⟨h.1, ?_⟩
  rcases h.2 with hn | ⟨g, cap, cur, rfl, hg, hh, r⟩
  · exact Or.inl hn
  · exact Or.inr ⟨g, cap, cur, rfl, hg, blk_tw hh k (fun hm => hS g hm (by simp [vb])), r⟩
theorem MXg.tw {B B0 H : Nat} {v : Value} {M : List (List Int)} {S : List Nat} {W W1 : World} (h : MXg B B0 H v M W) (k : Tw S W W1) (hS : ∀ i, i ∈ S → i ∉ vb v) (hr : ∀ i, i ∈ S → H ≤ i ∨ ∀ C, W.heap[i]? ≠ some (.cells C 3 (0, 0))) : MXg B B0 H v M W1 := by
  obtain ⟨ws, h1, h2, h3⟩ := h
  refine ⟨ws, own_tw h1 k hS, h2, fun j hj => ?_⟩
  obtain ⟨r, e1, e2, e3⟩ := h3 j hj
  refine ⟨r, e1, e2.keep k (fun i hi hm => ?_), e3⟩
  rcases hr i hi with q | q
  · have := e3 i hm; omega
  · obtain ⟨_, cur, hc⟩ := e2.blk i hm
    exact q cur hc
theorem MXg.keep {B B0 H : Nat} {v : Value} {M : List (List Int)} {W W1 : World} (h : MXg B B0 H v M W) (hb : Below W.heap.size W W1) : MXg B B0 H v M W1 := h.tw (Tw.of (S := []) hb) (by simp) (by simp)
theorem MXg.form {B B0 H : Nat} {v : Value} {M : List (List Int)} {W : World} (h : MXg B B0 H v M W) : ∃ a c, v = .slice a M.length c := by
  obtain ⟨ws, h1, _⟩ := h
  rcases h1.2 with ⟨h, h2⟩ | ⟨g, cap, cur, h, _⟩
  · rw [h2]; exact ⟨_, _, h⟩
  · exact ⟨_, _, h⟩
/-- where the rows lie -/
theorem MXg.cell {B B0 H : Nat} {v : Value} {M : List (List Int)} {W : World} (h : MXg B B0 H v M W) {j : Nat} (hj : j < M.length) : ∃ g c r, v = .slice (some ⟨g, 0, none⟩) M.length c ∧ W.cell? ⟨g, j, none⟩ = some r ∧ Ol B0 r (M[j]?.getD []) W ∧ g < W.heap.size ∧ M.length ≤ c ∧ c ≤ 9223372036854775807 := by
  obtain ⟨ws, h1, h2, h3⟩ := h
  obtain ⟨r, e1, e2, e3⟩ := h3 j hj
  rcases h1.2 with ⟨_, h0⟩ | ⟨g, cap, cur, hv, hg, hh, q1, q2, q3, q4⟩
  · omega
  · exact ⟨g, cap, r, hv, cell_take hh q4 e1, e2, lt_hp hh, q1, by unfold maxLen at q2; omega⟩
/-- the list without its last row -/
theorem MXg.pop {B B0 H : Nat} {g c : Nat} {M : List (List Int)} {p : List Int} {W : World} (h : MXg B B0 H (.slice (some ⟨g, 0, none⟩) (M ++ [p]).length c) (M ++ [p]) W) : MXg B B0 H (.slice (some ⟨g, 0, none⟩) M.length c) M W := by
  obtain ⟨ws, h1, h2, h3⟩ := h
  rw [List.length_append, List.length_singleton] at h1 h2
  refine ⟨ws.take M.length, ⟨by simp [h2], ?_⟩, by simp [h2], fun j hj => ?_⟩
  · rcases h1.2 with ⟨_, h0⟩ | ⟨g', cap, cur, hv, hg, hh, q1, q2, q3, q4⟩
    · omega
    · injection hv with hv e2 e3
      injection hv with hv
      injection hv with hv _ _
      subst hv
      subst e3
      refine Or.inr ⟨g, c, cur, rfl, hg, hh, by omega, q2, q3, ?_⟩
      rw [← q4, List.take_take]
      congr 1
      omega
  · obtain ⟨r, e1, e2, e3⟩ := h3 j (by rw [List.length_append, List.length_singleton]; omega)
    rw [List.getElem?_append_left hj] at e2
    exact ⟨r, by rw [List.getElem?_take_of_lt hj]; exact e1, e2, e3⟩
theorem ol_inj {B C : Nat} {v : Value} {L M : List Int} {W : World} (h : Ol B v L W) (k : Ol C v M W) : L = M := by
  have key : ∀ (L M : List Int), L.map (Value.int .i64) = M.map (Value.int .i64) → L = M := by
    intro L
    induction L with
    | nil => intro M h; cases M with | nil => rfl | cons a r => simp at h
    | cons a r ih =>
      intro M h
      cases M with
      | nil => simp at h
      | cons b s =>
        rw [List.map_cons, List.map_cons] at h
        injection h with h1 h2
        injection h1 with _ h1
        rw [h1, ih s h2]
  obtain ⟨a1, c1, e1⟩ := h.form
  obtain ⟨a2, c2, e2⟩ := k.form
  rcases h.2 with ⟨_, h0⟩ | ⟨g, cap, cur, hv, hg, hh, q1, q2, q3, q4⟩
  · rw [e1] at e2
    injection e2 with _ e2 _
    rw [List.length_eq_zero_iff.1 h0]
    rw [h0] at e2
    exact (List.length_eq_zero_iff.1 e2.symm).symm
  · rcases k.2 with ⟨_, k0⟩ | ⟨g', cap', cur', hv', hg', hh', r1, r2, r3, r4⟩
    · rw [e1] at e2
      injection e2 with _ e2 _
      rw [k0] at e2
      rw [List.length_eq_zero_iff.1 e2, List.length_eq_zero_iff.1 k0]
    · rw [hv] at hv'
      injection hv' with hv' e5 _
      injection hv' with hv'
      injection hv' with hv' _ _
      subst hv'
      rw [hh] at hh'
      injection hh' with hh'
      injection hh' with hh' _
      subst hh'
      rw [← e5] at r4
      exact key L M (q4.symm.trans r4)
/-- what is there is told by the memory alone -/
theorem MXg.inj {B B0 H C C0 G : Nat} {v : Value} {M Z : List (List Int)} {W : World} (h : MXg B B0 H v M W) (k : MXg C C0 G v Z W) : M = Z := by
  obtain ⟨a1, c1, e1⟩ := h.form
  obtain ⟨a2, c2, e2⟩ := k.form
  have hl : M.length = Z.length := by rw [e1] at e2; injection e2
  refine List.ext_getElem hl (fun j hj hj' => ?_)
  obtain ⟨g, c, r, x1, x2, x3, _⟩ := h.cell hj
  obtain ⟨g', c', r', y1, y2, y3, _⟩ := k.cell hj'
  rw [x1] at y1
  injection y1 with y1
  injection y1 with y1
  injection y1 with y1 _ _
  subst y1
  rw [x2] at y2
  injection y2 with y2
  subst y2
  have := ol_inj x3 y3
  rw [List.getElem?_eq_getElem hj, List.getElem?_eq_getElem hj'] at this
  exact this
/-- more rows -/
theorem MXg.app {B B0 H : Nat} {v v' : Value} {M Z : List (List Int)} {us : List Value} {W W' : World} (h : MXg B B0 H v M W) (hu : us.length = Z.length) (hz : ∀ j, j < Z.length → ∃ r, us[j]? = some r ∧ Ol B0 r (Z[j]?.getD []) W' ∧ ∀ i, i ∈ vb r → i < H) (ws : List Value) (hw : W.ownsRow B 22 1 v M.length ws)
    (hown : W'.ownsRow B 22 1 v' (M.length + Z.length) (ws ++ us)) (k : Tw (vb v) W W') : MXg B B0 H v' (M ++ Z) W' := by
  have hb := h.blk
  obtain ⟨xs, h1, h2, h3⟩ := h
  have he : ws = xs := by
    rcases hw.2 with ⟨e, h0⟩ | ⟨g, cap, cur, hv, hg, hh, q1, q2, q3, q4⟩
    · have a := hw.1; have b := h1.1
      rw [h0] at a b
      have a' : ws = [] := List.length_eq_zero_iff.1 (by omega)
      have b' : xs = [] := List.length_eq_zero_iff.1 (by omega)
      rw [a', b']
    · rcases h1.2 with ⟨e, h0⟩ | ⟨g', cap', cur', hv', hg', hh', r1, r2, r3, r4⟩
      · rw [hv] at e; cases e
      · rw [hv] at hv'
        injection hv' with hv' _ _
        injection hv' with hv'
        injection hv' with hv' _ _
        subst hv'
        rw [hh] at hh'
        injection hh' with hh'
        injection hh' with hh' _
        subst hh'
        rw [← q4, ← r4]
  subst he
  refine ⟨ws ++ us, by rw [List.length_append]; exact hown, by simp [h2, hu], fun j hj => ?_⟩
  rw [List.length_append] at hj
  by_cases hjl : j < M.length
  · obtain ⟨r, e1, e2, e3⟩ := h3 j hjl
    refine ⟨r, ?_, ?_, e3⟩
    · rw [List.getElem?_append_left (by omega)]; exact e1
    · rw [List.getElem?_append_left hjl]
      exact e2.keep k (fun i hi hm => by
        obtain ⟨_, c1, x1⟩ := hb i hi
        obtain ⟨_, c2, x2⟩ := e2.blk i hm
        rw [x1] at x2
        injection x2 with x2
        injection x2 with _ x2 _
        cases x2)
  · obtain ⟨r, e1, e2, e3⟩ := hz (j - M.length) (by omega)
    refine ⟨r, ?_, ?_, e3⟩
    · rw [List.getElem?_append_right (by omega), h2]; exact e1
    · rw [List.getElem?_append_right (by omega)]; exact e2
/-- append, of rows -/
theorem run_app23 {X : World} {B : Nat} {v : Value} {n m c : Nat} {xs news : List Value} {ga : Addr} (hown : X.ownsRow B 22 1 v n xs) (hB : B ≤ X.heap.size) (hl : news.length = m) (hnews : ∀ j u, news[j]? = some u → X.cell? (ga.add j) = some u) (h1 : ∀ u ∈ news, u.oneCell' = true) (hnm : n + m ≤ 9000) :
    ∃ v' X', (Builtin.append_ #[23, 23] 23 #[v, .slice (some ga) m c]).run Tryd.prog X = .ok v' X' ∧ X'.ownsRow B 22 1 v' (n + m) (xs ++ news) ∧ Tw (vb v) X X' ∧ ∀ i, i ∈ vb v' → i ∈ vb v ∨ i = X.heap.size := by
  obtain ⟨i0, hi, hz0, hz1, hz2⟩ := info_parts info22
  obtain ⟨v', w', hr, h2, h3, h4, h5⟩ := run_append_own_at (P := Tryd.prog) X B 23 23 22 i0 (.slice none 0 0) 1 24 Tryd.underlying23 hi hz0 hz1 hz2 rfl (by decide) v n xs hown ga m c news (by simpa using hl) hnews h1 (by unfold maxLen; omega) (by omega) hB
  refine ⟨v', w', hr, h2, ⟨h3.os, h3.tape, h3.output, h3.size, fun b hb hn => h3.block b hb (fun e => hn ((vb_own v b).mpr e.symm))⟩, fun i hi => ?_⟩
  have e := (vb_own v' i).mp hi
  rcases h5 with h5 | h5
  · rw [h5] at e; exact .inl ((vb_own v i).mpr e)
  · rw [h5] at e; injection e with e; exact .inr e.symm
theorem step_app23 {ops : Array Oper} {o : Oper} {A : Act} {X : World} {K : Act → World → Prop} {Q : Exit → Act → World → Prop} {E : Prop} (hgd : o.guard = none) (s x : Operand) (ho : o.op = .call { callee := .builtin .append, args := #[s, x], argTypes := #[23, 23] }) (hty : o.type = 23)
    (B : Nat) (v : Value) (n m c : Nat) (xs news : List Value) (ga : Addr) (he : A.eval s = v) (hx : A.eval x = .slice (some ga) m c) (hown : X.ownsRow B 22 1 v n xs) (hB : B ≤ X.heap.size) (hl : news.length = m) (hnews : ∀ j u, news[j]? = some u → X.cell? (ga.add j) = some u) (h1 : ∀ u ∈ news, u.oneCell' = true) (hnm : n + m ≤ 9000)
    (h : ∀ v' X', X'.ownsRow B 22 1 v' (n + m) (xs ++ news) → Tw (vb v) X X' → (∀ i, i ∈ vb v' → i ∈ vb v ∨ i = X.heap.size) → K (A.put o.dst v') X') : if Region.wanted o (yielded ops A.tmps) = true then Oper.wp Tryd.prog o A X K Q else E := by
  have hw : Region.wanted o (yielded ops A.tmps) = true := by simp [Region.wanted, hgd]
  rw [if_pos hw]
  obtain ⟨v', w', hr, h2, h3, h4⟩ := run_app23 (c := c) hown hB hl hnews h1 hnm
  unfold Oper.wp execOp
  simp only [ho, hty, resolve, invoke, builtin, Sem.run_bind, Sem.run_pure, Result.andThen_ok, List.map_toArray, List.map_cons, List.map_nil, he, hx, hr]
  exact h v' w' h2 h3 h4
theorem wpList_app23 {ops : Array Oper} {rest : List Oper} {o : Oper} {A : Act} {X : World} {Q : Exit → Act → World → Prop} (hgd : o.guard = none) (s x : Operand) (ho : o.op = .call { callee := .builtin .append, args := #[s, x], argTypes := #[23, 23] }) (hty : o.type = 23)
    (B : Nat) (v : Value) (n m c : Nat) (xs news : List Value) (ga : Addr) (he : A.eval s = v) (hx : A.eval x = .slice (some ga) m c) (hown : X.ownsRow B 22 1 v n xs) (hB : B ≤ X.heap.size) (hl : news.length = m) (hnews : ∀ j u, news[j]? = some u → X.cell? (ga.add j) = some u) (h1 : ∀ u ∈ news, u.oneCell' = true) (hnm : n + m ≤ 9000)
    (h : ∀ v' X', X'.ownsRow B 22 1 v' (n + m) (xs ++ news) → Tw (vb v) X X' → (∀ i, i ∈ vb v' → i ∈ vb v ∨ i = X.heap.size) → wpList Tryd.prog ops Q rest (A.put o.dst v') X') : wpList Tryd.prog ops Q (o :: rest) A X :=
  wpList_plain hgd fun K hK => by
    have hw : Region.wanted o (yielded ops A.tmps) = true := by simp [Region.wanted, hgd]
    have := step_app23 (ops := ops) (K := K) (Q := Q) (E := True) hgd s x ho hty B v n m c xs news ga he hx hown hB hl hnews h1 hnm (fun v' X' h1 h2 h3 => hK _ _ (h v' X' h1 h2 h3))
    rw [if_pos hw] at this
    exact this
theorem ol_one {B : Nat} {r : Value} {L : List Int} {W : World} (h : Ol B r L W) : r.oneCell' = true := by
  obtain ⟨a, c, rfl⟩ := h.form
  rfl
end Go.Proofs.YtlhpiikpmmlpeaaDoor.kn

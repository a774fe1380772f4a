/-
  Several acts at once: what Own, Shared and Steps tell; what the law keeps beside the pool.
-/
import Derived.Test.YtaihmkflhapjeaaPoX
import Derived.Test.YtaihmkflhapjeaaPoW
namespace Go.Proofs.Ytaihmkflhapjeaa
open Go.RowKit Go.MuLone
set_option linter.unusedVariables false
section
variable {A : Ad} {nv : Nat → Value} {nb : Nat → Int} {hd : Nat → Bool} {ow : Nat → Value} {l : List Int} {s : Int} {own : Nat → List Nat} {st : List Nat} {loc : Nat → Loc} {ac : Nat → Option Xa} {B i : Nat} {H : List Nat} {w w1 : World} {x : Xa}
theorem Mx.st_le (h : Mx A nv nb hd ow l s own st loc ac B H w) : st.length ≤ A.n := nodup_lt A.n st h.px.snd (fun m hm => ((h.px.inst m).mp hm).1)
theorem mx_own (h : Mx A nv nb hd ow l s own st loc ac B H w) (hi : i < 4) : Calls Try.prog 14 #[.pointer (some ⟨A.p, 0, none⟩), .int .i64 (i : Int)] w fun e w' => ∃ v', e = .returned v' ∧ Lst w.heap.size v' (ints (own i)) w' ∧ Below w.heap.size w w' ∧ Mx A nv nb hd ow l s own st loc ac B H w' := by
  have hk := h.k4
  have hol := h.px.o2 i hi
  have E := Lib.hid (emp_in (i : Int) (by omega) _ _ _ _ _ _ _ _ w h.po.box (by rw [hk]; omega))
  have C := Lib.hid (clone_ol B (ow i) (ints (own i)) w (h.ol i hi) (by rw [ints_len]; omega))
  have M := Lib.hid (fun W (hb : Below w.heap.size w W) => h.up hb)
  obtain ⟨q0, q1, q2, q3, q4⟩ := h.po.cells
  obtain ⟨k0, k1⟩ := h.po.oc i (by rw [hk]; exact hi)
  have i1 : (i : Int) < (A.k : Int) := by rw [hk]; omega
  have kk2 := h.po.k2
  clear h q0 q1 q2 q3 k1 hk hol
  generalize ow i = v at k0 C
  go_enter Try.func14, Try.ntmps14
  go_wp2_with fail
  refine E.out.mono ?_; rintro e w1 ⟨rfl, rfl⟩
  clear E
  go_wp2_with fail
  refine C.out.mono ?_; rintro e w2 ⟨v', rfl, h1, h2⟩
  have F := Lib.hid (And.intro h1 (And.intro h2 (M.out _ h2)))
  clear C h1 h2 M
  go_wp2
  go_ret
  exact ⟨_, rfl, F.out.1, F.out.2⟩
/-- the pool's memory alone has turned -/
theorem Mx.mem (h : Mx A nv nb hd ow l s own st loc ac B H w) (hp : Po A nv nb hd ow l s w1) (ht : Tw [A.g, A.b] w w1) : Mx A nv nb hd ow l s own st loc ac B H w1 ∧ Fr B H w w1 := by
  refine ⟨⟨h.px, hp, h.k4, h.s0, fun i hi => (h.ol i hi).keep ht (fun b hb hv => ?_), h.oa, h.ha, fun i hi => Nat.lt_of_lt_of_le (h.hw i hi) ht.size, Nat.le_trans h.hB ht.size, fun i hi x hx => ?_⟩, _, ht, fun b hb => ?_⟩
  · have o := (h.oa i hi b hv).1
    simp only [List.mem_cons, List.not_mem_nil, or_false] at hb
    omega
  · obtain ⟨a1, a2⟩ := h.ax i hi x hx
    have o := a1.ne h.po
    refine ⟨a1.keep ht (fun hm => ?_), a2⟩
    simp only [List.mem_cons, List.not_mem_nil, or_false] at hm
    rcases hm with c | c
    · exact o.g c
    · exact o.b c
  · simp only [List.mem_cons, List.not_mem_nil, or_false] at hb
    exact h.ha b (by rcases hb with c | c <;> simp [c])
theorem mx_shared (h : Mx A nv nb hd ow l s own st loc ac B H w) : Calls Try.prog 15 #[.pointer (some ⟨A.p, 0, none⟩)] w fun e w' => ∃ x c, e = .returned (.slice x st.length c) ∧ Ints w' x (ints st) ∧ Tw [A.g, A.b] w w' ∧ Mx A nv nb hd ow l s own st loc ac B H w' ∧ Fr B H w w' := by
  refine (shared_any (nth l A.base) st rfl h.px.t0 h.px.t1 h.px.sk h.st_le h.po).mono ?_
  rintro e w' ⟨v, rfl, ho, hp, ht⟩
  obtain ⟨x, c, rfl⟩ := own_sl ho
  refine ⟨x, c, rfl, fun j hj => ?_, ht, h.mem hp ht⟩
  rw [ints_len] at hj
  have hm : (ints st).map (Value.int .i64) = st.map iv := by unfold ints; rw [List.map_map]; rfl
  rcases ho.2 with ⟨h', _⟩ | ⟨g', cap', cur', hv, hg', hb, _⟩
  · have := congrArg slen h'; simp [slen] at this; omega
  · cases hv
    have HO : Own w.heap.size g' st.length c (ints st) w' w' := ⟨ints_len st, hg', by rw [hm]; exact ho, Below.refl _ _⟩
    obtain ⟨cur, hcu⟩ := HO.blk
    exact ⟨g', 0, rfl, lt_hp hcu, by rw [Nat.zero_add]; exact HO.cell j hj⟩
theorem mx_steps (h : Mx A nv nb hd ow l s own st loc ac B H w) : Calls Try.prog 22 #[.pointer (some ⟨A.g, 0, none⟩)] w fun e w' => e = .returned (.int .i64 s) ∧ Mx A nv nb hd ow l s own st loc ac B H w' ∧ Fr B H w w' := by
  obtain ⟨k, c, o, m, d, hm⟩ := h.po.mem
  refine (steps_any A.g A.b l s k c o m d w hm).mono ?_
  intro e w1 hd2
  obtain ⟨h1, h2, h3⟩ := h.po.did hd2 rfl
  exact ⟨h1, h.mem h2 h3⟩
end
/-- a list of slots that the law has built -/
def Oh (B : Nat) (v : Value) (L : List Nat) (w : World) : Prop := w.ownsRow B 3 1 v L.length (L.map iv)
theorem Oh.keep {B : Nat} {v : Value} {L : List Nat} {S : List Nat} {w w1 : World} (h : Oh B v L w) (k : Tw S w w1) (hS : ∀ i, i ∈ S → i ∉ vblk v) : Oh B v L w1 := by
  refine ⟨h.1, ?_⟩
  rcases h.2 with hn | ⟨g, cap, cur, rfl, hg, hh, r⟩
  · exact Or.inl hn
  · exact Or.inr ⟨g, cap, cur, rfl, hg, blk_tw hh k (fun hm => hS g hm (by simp [vblk])), r⟩
theorem Oh.blk {B : Nat} {v : Value} {L : List Nat} {w : World} (h : Oh B v L w) : ∀ i, i ∈ vblk v → B ≤ i ∧ ∃ cur, w.heap[i]? = some (.cells cur 3 (0, 0)) := fun i hi => by
  rcases h.2 with ⟨rfl, _⟩ | ⟨g, cap, cur, rfl, hg, hh, r⟩
  · simp [vblk] at hi
  · simp [vblk] at hi
    subst hi
    exact ⟨hg, cur, hh⟩
theorem Oh.form {B : Nat} {v : Value} {L : List Nat} {w : World} (h : Oh B v L w) : ∃ a c, v = .slice a L.length c := own_sl h
/-- what the law keeps: the reference, the acts that are under way, what each holds -/
def xp (bx : Nat → Nat) (ac : Nat → Option Xa) (i : Nat) : Value := match ac i with
  | none => .pointer none
  | some _ => .pointer (some ⟨bx i, 0, none⟩)
def xs (x : Xa) : Int := if x.gv then x.sl else 0
structure Lv (q g n cap qa qh B : Nat) (H : List Nat) (hvv : Nat → Int) (hl : Nat → Value) (L : Nat → List Nat) (bx : Nat → Nat) (fr : Nat → Int) (ac : Nat → Option Xa) (w : World) : Prop where
  rh : RHM q g n cap hvv w
  ha : w.heap[qa]? = some (.cells #[xp bx ac 0, xp bx ac 1, xp bx ac 2, xp bx ac 3] 47 (0, 0))
  hh : w.heap[qh]? = some (.cells #[hl 0, hl 1, hl 2, hl 3] 48 (0, 0))
  ol : ∀ i, i < 4 → Oh B (hl i) (L i) w
  bxs : ∀ i, i < 4 → ∀ x, ac i = some x → w.heap[bx i]? = some (.cells #[.pointer (some ⟨x.a, 0, none⟩), .bool x.gv, .int .i64 (xs x), .int .i64 (fr i)] 52 (0, 0)) ∧ 0 ≤ fr i ∧ fr i ≤ 10000
  bne : ∀ i, i < 4 → ∀ j, j < 4 → i ≠ j → ∀ x, ac i = some x → ∀ y, ac j = some y → bx i ≠ bx j
  mem : q ∈ H ∧ g ∈ H ∧ qa ∈ H ∧ qh ∈ H
  mhl : ∀ i, i < 4 → ∀ b, b ∈ vblk (hl i) → b ∈ H ∧ b ≠ g ∧ ∀ j, j < 4 → j ≠ i → b ∉ vblk (hl j)
  mbx : ∀ i, i < 4 → ∀ x, ac i = some x → bx i ∈ H
section
variable {q g n cap qa qh B : Nat} {H : List Nat} {hvv : Nat → Int} {hl : Nat → Value} {L : Nat → List Nat} {bx : Nat → Nat} {fr : Nat → Int} {ac : Nat → Option Xa} {w w1 : World}
theorem Lv.keep {S : List Nat} (h : Lv q g n cap qa qh B H hvv hl L bx fr ac w) (k : Tw S w w1) (hS : ∀ i, i ∈ S → i ∉ H) : Lv q g n cap qa qh B H hvv hl L bx fr ac w1 := by
  have hn : ∀ i, i ∈ H → i ∉ S := fun i hi hm => hS i hm hi
  refine ⟨h.rh.keep k (hn _ h.mem.1) (hn _ h.mem.2.1), blk_tw h.ha k (hn _ h.mem.2.2.1), blk_tw h.hh k (hn _ h.mem.2.2.2), fun i hi => (h.ol i hi).keep k (fun b hb hv => hS b hb (h.mhl i hi b hv).1), fun i hi x hx => ?_, h.bne, h.mem, h.mhl, h.mbx⟩
  obtain ⟨b1, b2⟩ := h.bxs i hi x hx
  exact ⟨blk_tw b1 k (hn _ (h.mbx i hi x hx)), b2⟩
theorem Lv.fr' (h : Lv q g n cap qa qh B H hvv hl L bx fr ac w) (k : Fr B H w w1) : Lv q g n cap qa qh B H hvv hl L bx fr ac w1 := by
  obtain ⟨S, t, hS⟩ := k
  exact h.keep t (fun i hi => (hS i hi).2)
theorem Lv.up (h : Lv q g n cap qa qh B H hvv hl L bx fr ac w) (k : Below w.heap.size w w1) : Lv q g n cap qa qh B H hvv hl L bx fr ac w1 := h.keep (Tw.of (S := []) k) (by simp)
theorem Lv.ca (h : Lv q g n cap qa qh B H hvv hl L bx fr ac w) (i : Nat) (hi : i < 4) : w.cell? ⟨qa, i, none⟩ = some (xp bx ac i) ∧ ∀ j, w.frozen? ⟨qa, j, none⟩ = false := by
  have ha := h.ha
  refine ⟨(cell_of_row w qa i _ 47 _ ha).trans ?_, fun j => by simp [World.frozen?, ha]⟩
  obtain rfl | rfl | rfl | rfl : i = 0 ∨ i = 1 ∨ i = 2 ∨ i = 3 := by omega
  all_goals rfl
theorem Lv.ch (h : Lv q g n cap qa qh B H hvv hl L bx fr ac w) (i : Nat) (hi : i < 4) : w.cell? ⟨qh, i, none⟩ = some (hl i) ∧ (∀ j, w.frozen? ⟨qh, j, none⟩ = false) ∧ ∃ a c, hl i = .slice a (L i).length c := by
  have hh := h.hh
  refine ⟨(cell_of_row w qh i _ 48 _ hh).trans ?_, fun j => by simp [World.frozen?, hh], (h.ol i hi).form⟩
  obtain rfl | rfl | rfl | rfl : i = 0 ∨ i = 1 ∨ i = 2 ∨ i = 3 := by omega
  all_goals rfl
theorem Lv.cb {i : Nat} {x : Xa} (h : Lv q g n cap qa qh B H hvv hl L bx fr ac w) (hi : i < 4) (hx : ac i = some x) : w.cell? ⟨bx i, 0, none⟩ = some (.pointer (some ⟨x.a, 0, none⟩)) ∧ w.cell? ⟨bx i, 1, none⟩ = some (.bool x.gv) ∧ w.cell? ⟨bx i, 2, none⟩ = some (.int .i64 (xs x)) ∧ w.cell? ⟨bx i, 3, none⟩ = some (.int .i64 (fr i)) ∧ ∀ j, w.frozen? ⟨bx i, j, none⟩ = false := by
  have hb := (h.bxs i hi x hx).1
  exact ⟨(cell_of_row w _ 0 _ 52 _ hb).trans rfl, (cell_of_row w _ 1 _ 52 _ hb).trans rfl, (cell_of_row w _ 2 _ 52 _ hb).trans rfl, (cell_of_row w _ 3 _ 52 _ hb).trans rfl, fun j => by simp [World.frozen?, hb]⟩
/-- a step of one act changes nothing that the law keeps -/
theorem Lv.step {i : Nat} {x z : Xa} (h : Lv q g n cap qa qh B H hvv hl L bx fr ac w) (hx : ac i = some x) (h1 : z.a = x.a) (h2 : z.gv = x.gv) (h3 : z.gv = true → z.sl = x.sl) : Lv q g n cap qa qh B H hvv hl L bx fr (upf ac i (some z)) w := by
  have e : ∀ j, xp bx (upf ac i (some z)) j = xp bx ac j := fun j => by
    unfold xp
    by_cases e : j = i
    · subst e; rw [upf_at, hx]
    · rw [upf_ne _ _ _ _ e]
  have es : xs z = xs x := by
    unfold xs
    rw [← h2]
    split
    · rename_i e; exact h3 e
    · rfl
  have old : ∀ j y, upf ac i (some z) j = some y → ∃ y', ac j = some y' ∧ y.a = y'.a ∧ y.gv = y'.gv ∧ xs y = xs y' := fun j y hy => by
    by_cases e : j = i
    · subst e; rw [upf_at] at hy; cases hy; exact ⟨x, hx, h1, h2, es⟩
    · rw [upf_ne _ _ _ _ e] at hy; exact ⟨y, hy, rfl, rfl, rfl⟩
  refine ⟨h.rh, by rw [e, e, e, e]; exact h.ha, h.hh, h.ol, fun j hj y hy => ?_, fun j hj k hk hne y hy y2 hy2 => ?_, h.mem, h.mhl, fun j hj y hy => ?_⟩
  · obtain ⟨y', k1, k2, k3, k4⟩ := old j y hy
    rw [k2, k3, k4]
    exact h.bxs j hj y' k1
  · obtain ⟨y', k1, _⟩ := old j y hy
    obtain ⟨y3, k2, _⟩ := old k y2 hy2
    exact h.bne j hj k hk hne y' k1 y3 k2
  · obtain ⟨y', k1, _⟩ := old j y hy
    exact h.mbx j hj y' k1
/-- an act is over: its place is empty -/
theorem Lv.over {i : Nat} (h : Lv q g n cap qa qh B H hvv hl L bx fr ac w) (hi : i < 4) : Lv q g n cap qa qh B H hvv hl L bx fr (upf ac i none) (w.setCell ⟨qa, i, none⟩ (.pointer none)) := by
  have k : Tw [qa] w (w.setCell ⟨qa, i, none⟩ (.pointer none)) := (Tw.refl _ w).st qa (.inl (by simp)) i _
  have old : ∀ j y, upf ac i none j = some y → ac j = some y := fun j y hy => by
    by_cases e : j = i
    · subst e; rw [upf_at] at hy; cases hy
    · rw [upf_ne _ _ _ _ e] at hy; exact hy
  have n1 : q ∉ [qa] := fun hm => by
    simp at hm
    exact absurd hm (blk_ty h.rh.1 h.ha (by decide))
  have n2 : g ∉ [qa] := fun hm => by
    simp at hm
    obtain ⟨_, _, _, ⟨cur, h4⟩, _⟩ := h.rh
    exact absurd hm (blk_ty h4 h.ha (by decide))
  refine ⟨h.rh.keep k n1 n2, ?_, blk_tw h.hh k (by simp; exact blk_ty h.hh h.ha (by decide)), fun j hj => (h.ol j hj).keep k (fun b hb hv => ?_), fun j hj y hy => ?_, fun j hj k hk hne y hy y2 hy2 => h.bne j hj k hk hne y (old j y hy) y2 (old k y2 hy2), h.mem, h.mhl, fun j hj y hy => h.mbx j hj y (old j y hy)⟩
  · refine (blk_set h.ha i (.pointer none)).trans ?_
    have e : ∀ j, j ≠ i → xp bx (upf ac i none) j = xp bx ac j := fun j hj => by unfold xp; rw [upf_ne _ _ _ _ hj]
    have e2 : xp bx (upf ac i none) i = .pointer none := by unfold xp; rw [upf_at]
    obtain rfl | rfl | rfl | rfl : i = 0 ∨ i = 1 ∨ i = 2 ∨ i = 3 := by omega
    · rw [e2, e 1 (by omega), e 2 (by omega), e 3 (by omega)]; rfl
    · rw [e2, e 0 (by omega), e 2 (by omega), e 3 (by omega)]; rfl
    · rw [e2, e 0 (by omega), e 1 (by omega), e 3 (by omega)]; rfl
    · rw [e2, e 0 (by omega), e 1 (by omega), e 2 (by omega)]; rfl
  · simp at hb
    subst hb
    obtain ⟨_, cur, hc⟩ := (h.ol j hj).blk b hv
    exact absurd rfl (blk_ty hc h.ha (by decide))
  · obtain ⟨b1, b2⟩ := h.bxs j hj y (old j y hy)
    exact ⟨blk_tw b1 k (by simp; exact blk_ty b1 h.ha (by decide)), b2⟩
/-- the reference is told -/
theorem Lv.tell {m : Nat} (h : Lv q g n cap qa qh B H hvv hl L bx fr ac w) (hm : m < n) (v : Int) : Lv q g n cap qa qh B H (upf hvv m v) hl L bx fr ac (w.setCell ⟨g, m, none⟩ (.int .i64 v)) := by
  have k : Tw [g] w (w.setCell ⟨g, m, none⟩ (.int .i64 v)) := (Tw.refl _ w).st g (.inl (by simp)) m _
  obtain ⟨_, _, _, ⟨cur, h4⟩, _⟩ := h.rh
  refine ⟨h.rh.st m hm v, blk_tw h.ha k (by simp; exact blk_ty h.ha h4 (by decide)), blk_tw h.hh k (by simp; exact blk_ty h.hh h4 (by decide)), fun j hj => (h.ol j hj).keep k (fun b hb hv => ?_), fun j hj y hy => ?_, h.bne, h.mem, h.mhl, h.mbx⟩
  · simp at hb
    exact (h.mhl j hj b hv).2.1 hb
  · obtain ⟨b1, b2⟩ := h.bxs j hj y hy
    exact ⟨blk_tw b1 k (by simp; exact blk_ty b1 h4 (by decide)), b2⟩
/-- what a Take under way may have met -/
theorem Lv.from {i : Nat} {x : Xa} (h : Lv q g n cap qa qh B H hvv hl L bx fr ac w) (hi : i < 4) (hx : ac i = some x) (v : Int) (h0 : 0 ≤ v) (h1 : v ≤ 10000) : Lv q g n cap qa qh B H hvv hl L bx (upf fr i v) ac (w.setCell ⟨bx i, 3, none⟩ (.int .i64 v)) := by
  have k : Tw [bx i] w (w.setCell ⟨bx i, 3, none⟩ (.int .i64 v)) := (Tw.refl _ w).st (bx i) (.inl (by simp)) 3 _
  obtain ⟨b1, b2⟩ := h.bxs i hi x hx
  have n1 : q ∉ [bx i] := fun hm => by
    simp at hm
    exact absurd hm (blk_ty h.rh.1 b1 (by decide))
  have n2 : g ∉ [bx i] := fun hm => by
    simp at hm
    obtain ⟨_, _, _, ⟨cur, h4⟩, _⟩ := h.rh
    exact absurd hm (blk_ty h4 b1 (by decide))
  refine ⟨h.rh.keep k n1 n2, blk_tw h.ha k (by simp; exact blk_ty h.ha b1 (by decide)), blk_tw h.hh k (by simp; exact blk_ty h.hh b1 (by decide)), fun j hj => (h.ol j hj).keep k (fun b hb hv => ?_), fun j hj y hy => ?_, h.bne, h.mem, h.mhl, h.mbx⟩
  · simp at hb
    subst hb
    obtain ⟨_, cur, hc⟩ := (h.ol j hj).blk _ hv
    exact absurd rfl (blk_ty hc b1 (by decide))
  · by_cases e : j = i
    · subst e
      rw [hx] at hy
      cases hy
      rw [upf_at]
      exact ⟨(blk_set b1 3 (.int .i64 v)).trans rfl, h0, h1⟩
    · rw [upf_ne _ _ _ _ e]
      obtain ⟨c1, c2⟩ := h.bxs j hj y hy
      exact ⟨blk_tw c1 k (by simp; exact h.bne j hj i hi e y hy x hx), c2⟩
end
end Go.Proofs.Ytaihmkflhapjeaa

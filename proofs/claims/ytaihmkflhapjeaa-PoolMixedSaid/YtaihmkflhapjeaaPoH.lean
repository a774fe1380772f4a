/-
  One worker alone: its own list, the stack, who is held; what a Take and a Give make of them.
-/
import Derived.Test.YtaihmkflhapjeaaPoG
namespace Go.Proofs.Ytaihmkflhapjeaa
open Go.RowKit Go.MuLone
set_option linter.unusedVariables false
def ints (x : List Nat) : List Int := List.map (fun m : Nat => (m : Int)) x
theorem ints_len (x : List Nat) : (ints x).length = x.length := by unfold ints; simp
theorem ints_cons (m : Nat) (x : List Nat) : ints (m :: x) = (m : Int) :: ints x := rfl
structure Al (A : Ad) (nv : Nat → Value) (nb : Nat → Int) (hd : Nat → Bool) (own st : List Nat) (s : Int) (B : Nat) (H : List Nat) (ow : Nat → Value) (l : List Int) (w : World) : Prop where
  po : Po A nv nb hd ow l s w
  ol : Ol B (ow 0) (ints own) w
  oa : ∀ i, i ∈ vblk (ow 0) → i ≠ A.p ∧ i ≠ A.g ∧ i ≠ A.b ∧ i ≠ A.bn ∧ i ≠ A.bh ∧ i ≠ A.bo
  oh : ∀ i, i ∈ vblk (ow 0) → i ∉ H
  ha : ∀ i, i = A.p ∨ i = A.g ∨ i = A.b ∨ i = A.bn ∨ i = A.bh ∨ i = A.bo → B ≤ i ∧ i ∉ H
  hw : ∀ i, i ∈ H → i < w.heap.size
  hB : B ≤ w.heap.size
  t0 : 0 ≤ nth l A.base
  t1 : nth l A.base ≤ 4611686018427387903
  sk : Stk l A.base A.n st (tpl (nth l A.base))
  o2 : own.length ≤ 2
  fr : ∀ m, m ∈ own ++ st → m < A.n ∧ hd m = false
  nd : (own ++ st).Nodup
  cm : ∀ j, j < A.n → hd j = false → j ∈ own ++ st
  s0 : 0 ≤ s
  s1 : s ≤ 90000
  k1 : A.k = 1
/-- what an act leaves as it was -/
def Fr (B : Nat) (H : List Nat) (w w' : World) : Prop := ∃ S, Tw S w w' ∧ ∀ i, i ∈ S → B ≤ i ∧ i ∉ H
section
variable {A : Ad} {nv : Nat → Value} {nb : Nat → Int} {hd : Nat → Bool} {own st : List Nat} {s : Int} {B : Nat} {H : List Nat} {ow : Nat → Value} {l : List Int} {w w1 : World} {a : Nat} {wk nx sl tp bl : Int} {gv : Bool}
theorem Al.aside {S : List Nat} (h : Al A nv nb hd own st s B H ow l w) (k : Tw S w w1) (hS : ∀ i, i ∈ S → i ∈ H) : Al A nv nb hd own st s B H ow l w1 := by
  have hn : ∀ i, i = A.p ∨ i = A.g ∨ i = A.b ∨ i = A.bn ∨ i = A.bh ∨ i = A.bo → i ∉ S := fun i hi hm => (h.ha i hi).2 (hS i hm)
  exact ⟨h.po.keep k (hn _ (by simp)) (hn _ (by simp)) (hn _ (by simp)) (hn _ (by simp)) (hn _ (by simp)) (hn _ (by simp)), h.ol.keep k (fun i hi hv => h.oh i hv (hS i hi)), h.oa, h.oh, h.ha, fun i hi => Nat.lt_of_lt_of_le (h.hw i hi) k.size, Nat.le_trans h.hB k.size, h.t0, h.t1, h.sk, h.o2, h.fr, h.nd, h.cm, h.s0, h.s1, h.k1⟩
theorem Al.up (h : Al A nv nb hd own st s B H ow l w) (k : Below w.heap.size w w1) : Al A nv nb hd own st s B H ow l w1 := h.aside (Tw.of (S := []) k) (by simp)
/-- an act's box lies apart -/
theorem Al.act (h : Al A nv nb hd own st s B H ow l w) (ha : Ac a A wk gv nx sl tp bl w) : ∀ i, i ∈ vblk (ow 0) → i ≠ a ∧ i ≠ A.p ∧ i ≠ A.g ∧ i ≠ A.b ∧ i ≠ A.bn ∧ i ≠ A.bh ∧ i ≠ A.bo := fun i hi => by
  obtain ⟨hb, cur, hc⟩ := h.ol.blk i hi
  refine ⟨fun e => ?_, h.oa i hi⟩
  subst e
  exact absurd rfl (blk_ty hc ha (by decide))
theorem upf_in (f : Nat → Bool) (m i : Nat) (v : Bool) (h : i ≠ m) : upf f m v i = f i := upf_ne f m v i h
theorem stk_set (l : List Int) (base n ix : Nat) (y : Int) (hb : base + 1 + n ≤ l.length) : ∀ (st : List Nat) (x : Int), (∀ m, m ∈ st → base + 1 + m ≠ ix) → Stk l base n st x → Stk (l.set ix y) base n st x
  | [], x, _, h => h
  | m :: st, x, hm, h => by
    obtain ⟨h1, h2, h3⟩ := h
    refine ⟨h1, h2, ?_⟩
    have e : nth (l.set ix y) (base + 1 + m) = nth l (base + 1 + m) := by
      by_cases hx : ix < l.length
      · rw [nth_set _ _ _ _ hx, if_neg (fun e => hm m (by simp) e.symm)]
      · rw [List.set_eq_of_length_le (by omega)]
    rw [e]
    exact stk_set l base n ix y hb st _ (fun m' h' => hm m' (by simp [h'])) h3
theorem tpl_pl (T x : Int) : tpl (upv T x) = pl x := by
  have h := pl_bd x
  unfold tpl upv
  rw [pk_eq]
  omega
theorem stk_top (l : List Int) (base n : Nat) (T : Int) (hn : n ≤ 4096) : ∀ (st : List Nat) (x : Int), Stk l base n st x → Stk l base n st (tpl (upv T x))
  | [], x, h => by
    rw [tpl_pl]
    have hb := pl_bd x
    by_cases hx : 0 ≤ x ∧ x ≤ 2147483646
    · rw [pl_in x hx]; exact h
    · rw [pl_out x hx]; exact .inl (by omega)
  | m :: st, x, h => by
    obtain ⟨h1, h2, h3⟩ := h
    rw [tpl_pl, pl_in x (by omega)]
    exact ⟨h1, h2, h3⟩
/-- a Take out of one's own list -/
theorem al_own (m : Nat) (r : List Nat) (hA : Al A nv nb hd (m :: r) st s B H ow l w) (ha : Ac a A 0 false 1 sl tp bl w) (hB : B ≤ a) (hH : a ∉ H) :
    Calls Try.prog 23 #[.pointer (some ⟨a, 0, none⟩)] w fun e w' => e = .returned (.int .i64 1) ∧ ∃ ow' l', Al A nv nb (upf hd m true) r st s B H ow' l' w' ∧ Ac a A 0 false 4 m tp bl w' ∧ Fr B H w w' := by
  have hm := hA.fr m (by simp)
  have hnd := List.nodup_cons.mp (show (m :: (r ++ st)).Nodup from hA.nd)
  refine (run_own B 0 m m (ints r) rfl hm.1 rfl (by rw [hA.k1]; omega) hA.po ha (by have := hA.ol; rwa [ints_cons] at this) (hA.act ha)).mono ?_
  rintro e w' ⟨rfl, v', h1, h2, f⟩
  refine ⟨rfl, upf ow 0 v', l, ⟨f.st, by rw [upf_at]; exact h1, by rw [upf_at]; exact fun i hi => hA.oa i (h2 i hi), by rw [upf_at]; exact fun i hi => hA.oh i (h2 i hi), hA.ha, fun i hi => Nat.lt_of_lt_of_le (hA.hw i hi) f.tw.size, Nat.le_trans hA.hB f.tw.size, hA.t0, hA.t1, hA.sk, by have := hA.o2; simp at this; omega, fun i hi => ?_, hnd.2, fun j hj hf => ?_, hA.s0, hA.s1, hA.k1⟩, f.ac, _, f.tw, fun i hi => ?_⟩
  · have := hA.fr i (by simp at hi ⊢; rcases hi with h | h <;> simp [h])
    rw [upf_in _ _ _ _ (fun e => hnd.1 (by rw [e] at hi; exact hi))]
    exact this
  · by_cases e : j = m
    · rw [e, upf_at] at hf; cases hf
    · rw [upf_in _ _ _ _ e] at hf
      rcases List.mem_cons.mp (show j ∈ m :: (r ++ st) from hA.cm j hj hf) with h | h
      · exact absurd h e
      · exact h
  · simp at hi
    rcases hi with h | h | h | h | h
    · exact hA.ha i (by simp [h])
    · exact hA.ha i (by simp [h])
    · exact hA.ha i (by simp [h])
    · exact hA.ha i (by simp [h])
    · subst h; exact ⟨hB, hH⟩
/-- a Take from the stack -/
theorem al_top (m : Nat) (r : List Nat) (hA : Al A nv nb hd [] (m :: r) s B H ow l w) (ha : Ac a A 0 false 1 sl tp bl w) (hB : B ≤ a) (hH : a ∉ H) (hs : s ≤ 80000) :
    Calls Try.prog 23 #[.pointer (some ⟨a, 0, none⟩)] w fun e w' => e = .returned (.int .i64 3) ∧ ∃ l' tp' bl', Al A nv nb (upf hd m true) [] r (s + 1 + 1 + 1) B H ow l' w' ∧ Ac a A 0 false 4 m tp' bl' w' ∧ Fr B H w w' := by
  have hm := hA.fr m (by simp)
  have hnd := List.nodup_cons.mp (show (m :: r).Nodup from hA.nd)
  obtain ⟨k1, k2, k3⟩ := hA.sk
  have hl := hA.po.len
  have n2 := hA.po.n2
  refine (run_take (R := []) B 0 m (nth l A.base) rfl hA.t0 hA.t1 k1 hm.1 rfl (by rw [hA.k1]; omega) hA.s0 (by omega) hA.po ha (show Ol B (ow 0) [] w from hA.ol)).mono ?_
  rintro e w' ⟨rfl, f⟩
  have e1 : nth (l.set A.base (upv (nth l A.base) (nth l (A.base + 1 + m)))) A.base = upv (nth l A.base) (nth l (A.base + 1 + m)) := by rw [nth_set _ _ _ _ (by omega), if_pos rfl]
  have hb := upv_bd (nth l A.base) (nth l (A.base + 1 + m))
  refine ⟨rfl, _, _, _, ⟨f.st, hA.ol.keep f.tw (fun i hi hv => ?_), hA.oa, hA.oh, hA.ha, fun i hi => Nat.lt_of_lt_of_le (hA.hw i hi) f.tw.size, Nat.le_trans hA.hB f.tw.size, by rw [e1]; exact hb.1, by rw [e1]; exact hb.2, ?_, by simp, fun i hi => ?_, hnd.2, fun j hj hf => ?_, by have := hA.s0; omega, by omega, hA.k1⟩, f.ac, _, f.tw, fun i hi => ?_⟩
  · have := hA.act ha i hv
    simp at hi
    omega
  · rw [e1]
    refine stk_set l A.base A.n A.base _ hl r _ (fun i _ => by omega) ?_
    exact stk_top l A.base A.n _ n2 r _ k3
  · have := hA.fr i (by simp at hi ⊢; simp [hi])
    rw [upf_in _ _ _ _ (fun e => hnd.1 (by rw [e] at hi; simpa using hi))]
    exact this
  · by_cases e : j = m
    · rw [e, upf_at] at hf; cases hf
    · rw [upf_in _ _ _ _ e] at hf
      rcases List.mem_cons.mp (show j ∈ m :: r from hA.cm j hj hf) with h | h
      · exact absurd h e
      · exact h
  · simp at hi
    rcases hi with h | h | h | h | h
    · exact hA.ha i (by simp [h])
    · exact hA.ha i (by simp [h])
    · exact hA.ha i (by simp [h])
    · exact hA.ha i (by simp [h])
    · subst h; exact ⟨hB, hH⟩
/-- a Take where there is nothing -/
theorem al_none (hA : Al A nv nb hd [] [] s B H ow l w) (ha : Ac a A 0 false 1 sl tp bl w) (hB : B ≤ a) (hH : a ∉ H) (hs : s ≤ 80000) :
    Calls Try.prog 23 #[.pointer (some ⟨a, 0, none⟩)] w fun e w' => e = .returned (.int .i64 1) ∧ ∃ tp' bl', Al A nv nb hd [] [] (s + 1) B H ow l w' ∧ Ac a A 0 false 4 (-1) tp' bl' w' ∧ Fr B H w w' := by
  refine (run_none (R := []) B 0 (nth l A.base) rfl hA.t0 hA.t1 hA.sk rfl (by rw [hA.k1]; omega) hA.s0 (by omega) hA.po ha (show Ol B (ow 0) [] w from hA.ol)).mono ?_
  rintro e w' ⟨rfl, f⟩
  refine ⟨rfl, _, _, ⟨f.st, hA.ol.keep f.tw (fun i hi hv => ?_), hA.oa, hA.oh, hA.ha, fun i hi => Nat.lt_of_lt_of_le (hA.hw i hi) f.tw.size, Nat.le_trans hA.hB f.tw.size, hA.t0, hA.t1, hA.sk, by simp, fun i hi => by simp at hi, by simp, hA.cm, by have := hA.s0; omega, by omega, hA.k1⟩, f.ac, _, f.tw, fun i hi => ?_⟩
  · have := hA.act ha i hv
    simp at hi
    omega
  · simp at hi
    rcases hi with h | h | h | h | h
    · exact hA.ha i (by simp [h])
    · exact hA.ha i (by simp [h])
    · exact hA.ha i (by simp [h])
    · exact hA.ha i (by simp [h])
    · subst h; exact ⟨hB, hH⟩
/-- a Give into one's own list -/
theorem al_give (m : Nat) (hm2 : m < A.n) (hh : hd m = true) (ho : own.length < 2) (hA : Al A nv nb hd own st s B H ow l w) (ha : Ac a A 0 true 0 (m : Int) tp bl w) (hB : B ≤ a) (hH : a ∉ H) :
    Calls Try.prog 23 #[.pointer (some ⟨a, 0, none⟩)] w fun e w' => e = .returned (.int .i64 1) ∧ ∃ ow' l', Al A nv nb (upf hd m false) (m :: own) st s B H ow' l' w' ∧ Ac a A 0 true 4 m tp bl w' ∧ Fr B H w w' := by
  have hno : ∀ i, i ∈ own ++ st → i ≠ m := fun i hi e => by
    have := (hA.fr i hi).2
    rw [e, hh] at this
    cases this
  refine (run_give B 0 m (ints own) rfl hm2 hh (by rw [ints_len]; exact ho) hA.hB rfl (by rw [hA.k1]; omega) hA.po ha hA.ol (hA.act ha)).mono ?_
  rintro e w' ⟨rfl, v', h1, h2, f⟩
  have hlt := hA.po.lt
  refine ⟨rfl, upf ow 0 v', l, ⟨f.st, by rw [upf_at, ints_cons]; exact h1, ?_, ?_, hA.ha, fun i hi => Nat.lt_of_lt_of_le (hA.hw i hi) f.tw.size, Nat.le_trans hA.hB f.tw.size, hA.t0, hA.t1, hA.sk, by simp; omega, fun i hi => ?_, ?_, fun j hj hf => ?_, hA.s0, hA.s1, hA.k1⟩, f.ac, _, f.tw, fun i hi => ?_⟩
  · rw [upf_at]
    intro i hi
    rcases h2 i hi with h | h
    · exact hA.oa i h
    · omega
  · rw [upf_at]
    intro i hi
    rcases h2 i hi with h | h
    · exact hA.oh i h
    · intro hm
      have := hA.hw i hm
      omega
  · rcases List.mem_cons.mp (show i ∈ m :: (own ++ st) from hi) with rfl | h
    · exact ⟨hm2, upf_at _ _ _⟩
    · rw [upf_in _ _ _ _ (hno i h)]
      exact hA.fr i h
  · exact List.nodup_cons.mpr (show m ∉ own ++ st ∧ (own ++ st).Nodup from ⟨fun h => hno m h rfl, hA.nd⟩)
  · by_cases e : j = m
    · subst e; simp
    · rw [upf_in _ _ _ _ e] at hf
      exact List.mem_cons.mpr (.inr (hA.cm j hj hf))
  · simp at hi
    rcases hi with h | h | h | h | h | h
    · exact hA.ha i (by simp [h])
    · exact hA.ha i (by simp [h])
    · exact hA.ha i (by simp [h])
    · exact hA.ha i (by simp [h])
    · subst h; exact ⟨hB, hH⟩
    · exact ⟨(hA.ol.blk i h).1, hA.oh i h⟩
/-- a Give onto the stack -/
theorem al_put (m : Nat) (hm2 : m < A.n) (hh : hd m = true) (ho : own.length = 2) (hA : Al A nv nb hd own st s B H ow l w) (ha : Ac a A 0 true 0 (m : Int) tp bl w) (hB : B ≤ a) (hH : a ∉ H) (hs : s ≤ 80000) :
    Calls Try.prog 23 #[.pointer (some ⟨a, 0, none⟩)] w fun e w' => e = .returned (.int .i64 3) ∧ ∃ l' tp', Al A nv nb (upf hd m false) own (m :: st) (s + 1 + 1 + 1) B H ow l' w' ∧ Ac a A 0 true 4 m tp' bl w' ∧ Fr B H w w' := by
  have hno : ∀ i, i ∈ own ++ st → i ≠ m := fun i hi e => by
    have := (hA.fr i hi).2
    rw [e, hh] at this
    cases this
  have hl := hA.po.len
  have n2 := hA.po.n2
  refine (run_put (R := []) B 0 m (ints own) (nth l A.base) rfl hA.t0 hA.t1 rfl hm2 hh (by rw [ints_len]; omega) rfl (by rw [hA.k1]; omega) hA.s0 (by omega) hA.po ha hA.ol).mono ?_
  rintro e w' ⟨rfl, f⟩
  have e1 : nth ((l.set (A.base + 1 + m) (tpl (nth l A.base))).set A.base (upv (nth l A.base) (m : Int))) A.base = upv (nth l A.base) (m : Int) := by rw [nth_set _ _ _ _ (by simp; omega), if_pos rfl]
  have e2 : nth ((l.set (A.base + 1 + m) (tpl (nth l A.base))).set A.base (upv (nth l A.base) (m : Int))) (A.base + 1 + m) = tpl (nth l A.base) := by rw [nth_set _ _ _ _ (by simp; omega), if_neg (by omega), nth_set _ _ _ _ (by omega), if_pos rfl]
  have hb := upv_bd (nth l A.base) (m : Int)
  refine ⟨rfl, _, _, ⟨f.st, hA.ol.keep f.tw (fun i hi hv => ?_), hA.oa, hA.oh, hA.ha, fun i hi => Nat.lt_of_lt_of_le (hA.hw i hi) f.tw.size, Nat.le_trans hA.hB f.tw.size, by rw [e1]; exact hb.1, by rw [e1]; exact hb.2, ?_, hA.o2, fun i hi => ?_, ?_, fun j hj hf => ?_, by have := hA.s0; omega, by omega, hA.k1⟩, f.ac, _, f.tw, fun i hi => ?_⟩
  · have := hA.act ha i hv
    simp at hi
    omega
  · rw [e1, tpl_upv _ _ (by omega) (by omega)]
    refine ⟨rfl, hm2, ?_⟩
    rw [e2]
    refine stk_set _ A.base A.n A.base _ (by simp; omega) st _ (fun i _ => by omega) ?_
    exact stk_set l A.base A.n _ _ hl st _ (fun i hi => by have := hno i (by simp [hi]); omega) hA.sk
  · have hi' : i = m ∨ i ∈ own ++ st := by
      simp at hi ⊢
      rcases hi with h | h | h <;> simp [h]
    rcases hi' with rfl | h
    · exact ⟨hm2, upf_at _ _ _⟩
    · rw [upf_in _ _ _ _ (hno i h)]
      exact hA.fr i h
  · exact (List.perm_middle.nodup_iff).mpr (List.nodup_cons.mpr ⟨fun h => hno m h rfl, hA.nd⟩)
  · by_cases e : j = m
    · subst e; simp
    · rw [upf_in _ _ _ _ e] at hf
      have := hA.cm j hj hf
      simp at this ⊢
      rcases this with h | h <;> simp [h]
  · simp at hi
    rcases hi with h | h | h | h | h
    · exact hA.ha i (by simp [h])
    · exact hA.ha i (by simp [h])
    · exact hA.ha i (by simp [h])
    · exact hA.ha i (by simp [h])
    · subst h; exact ⟨hB, hH⟩
/-- any Take, where there is a slot -/
theorem al_take (hn : 0 < own.length + st.length) (hA : Al A nv nb hd own st s B H ow l w) (ha : Ac a A 0 false 1 sl tp bl w) (hB : B ≤ a) (hH : a ∉ H) (hs : s ≤ 80000) :
    Calls Try.prog 23 #[.pointer (some ⟨a, 0, none⟩)] w fun e w' => ∃ (k : Int) (m : Nat) (own' st' : List Nat) (s' : Int) (ow' : Nat → Value) (l' : List Int) (tp' bl' : Int), e = .returned (.int .i64 k) ∧ 0 ≤ k ∧ m < A.n ∧ hd m = false ∧ own'.length + st'.length + 1 = own.length + st.length ∧ s' ≤ s + 3 ∧ Al A nv nb (upf hd m true) own' st' s' B H ow' l' w' ∧ Ac a A 0 false 4 m tp' bl' w' ∧ Fr B H w w' := by
  cases own with
  | cons m r =>
    refine (al_own m r hA ha hB hH).mono ?_
    rintro e w' ⟨rfl, ow', l', h1, h2, h3⟩
    exact ⟨1, m, r, st, s, ow', l', tp, bl, rfl, by omega, (hA.fr m (by simp)).1, (hA.fr m (by simp)).2, by simp; omega, by omega, h1, h2, h3⟩
  | nil =>
    cases st with
    | nil => simp at hn
    | cons m r =>
      refine (al_top m r hA ha hB hH hs).mono ?_
      rintro e w' ⟨rfl, l', tp', bl', h1, h2, h3⟩
      exact ⟨3, m, [], r, _, ow, l', tp', bl', rfl, by omega, (hA.fr m (by simp)).1, (hA.fr m (by simp)).2, by simp, by omega, h1, h2, h3⟩
/-- any Give -/
theorem al_back (m : Nat) (hm2 : m < A.n) (hh : hd m = true) (hA : Al A nv nb hd own st s B H ow l w) (ha : Ac a A 0 true 0 (m : Int) tp bl w) (hB : B ≤ a) (hH : a ∉ H) (hs : s ≤ 80000) :
    Calls Try.prog 23 #[.pointer (some ⟨a, 0, none⟩)] w fun e w' => ∃ (k : Int) (own' st' : List Nat) (s' : Int) (ow' : Nat → Value) (l' : List Int) (tp' bl' : Int), e = .returned (.int .i64 k) ∧ 0 ≤ k ∧ own'.length + st'.length = own.length + st.length + 1 ∧ s' ≤ s + 3 ∧ Al A nv nb (upf hd m false) own' st' s' B H ow' l' w' ∧ Ac a A 0 true 4 m tp' bl' w' ∧ Fr B H w w' := by
  by_cases ho : own.length < 2
  · refine (al_give m hm2 hh ho hA ha hB hH).mono ?_
    rintro e w' ⟨rfl, ow', l', h1, h2, h3⟩
    exact ⟨1, _, _, s, ow', l', tp, bl, rfl, by omega, by simp; omega, by omega, h1, h2, h3⟩
  · refine (al_put m hm2 hh (by have := hA.o2; omega) hA ha hB hH hs).mono ?_
    rintro e w' ⟨rfl, l', tp', h1, h2, h3⟩
    exact ⟨3, _, _, _, ow, l', tp', bl, rfl, by omega, by simp; omega, by omega, h1, h2, h3⟩
/-- where not all are free one is held -/
theorem pig : ∀ (n : Nat) (L : List Nat), (∀ j, j < n → j ∈ L) → n ≤ L.length
  | 0, L, _ => Nat.zero_le _
  | n + 1, L, h => by
    have h1 := h n (by omega)
    have h2 := pig n (L.erase n) (fun j hj => (List.mem_erase_of_ne (by omega)).mpr (h j (by omega)))
    have h3 := List.length_erase_of_mem h1
    have h4 : 0 < L.length := List.length_pos_of_mem h1
    omega
theorem Al.held (h : Al A nv nb hd own st s B H ow l w) (hl : own.length + st.length < A.n) : ∃ j, j < A.n ∧ hd j = true := by
  refine Classical.byContradiction fun hc => ?_
  have := pig A.n (own ++ st) (fun j hj => h.cm j hj (by
    cases e : hd j
    · rfl
    · exact absurd ⟨j, hj, e⟩ hc))
  simp at this
  omega
end
end Go.Proofs.Ytaihmkflhapjeaa

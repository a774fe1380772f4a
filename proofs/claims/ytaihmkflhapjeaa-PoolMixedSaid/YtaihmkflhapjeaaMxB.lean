/-
  PoolMixed: how it begins; a new act's box, a new list, in memory.
-/
import Derived.Test.YtaihmkflhapjeaaMxA
namespace Go.Proofs.Ytaihmkflhapjeaa
open Go.RowKit Go.MuLone
set_option linter.unusedVariables false
theorem setCell_twice {w : World} {g i : Nat} {cur : Array Value} {t : TypeId} (v u : Value) (hg : w.heap[g]? = some (.cells cur t (0, 0))) : (w.setCell ⟨g, i, none⟩ v).setCell ⟨g, i, none⟩ u = w.setCell ⟨g, i, none⟩ u := by
  rw [setCell_eq_setRow _ g i _ t _ u (blk_set hg i v), setCell_eq_setRow w g i cur t _ v hg, setRow_setRow, setCell_eq_setRow w g i cur t _ u hg]
  congr 1
  simp
/-- where PoolMixed stands between two rounds -/
def Jt (A : Ad) (q g cap qa qh B : Nat) (w0 : World) (b : Int) (w : World) : Prop := ∃ nv nb hd ow l s own st loc ac H hvv hl L bx fr, Mx A nv nb hd ow l s own st loc ac B H w ∧ Lv q g A.n cap qa qh B H hvv hl L bx fr ac w ∧ Rl A.n hvv L loc ∧ s ≤ b ∧ Below B w0 w ∧ ∀ c, c ∈ H → B ≤ c
theorem mx_begin {A : Ad} {l' : List Int} {w w3 : World} (hbase : A.base = 3) (hAk : A.k = 4) (hn : A.n ≤ 30) (hsz : w.heap.size ≤ A.p ∧ w.heap.size ≤ A.g ∧ w.heap.size ≤ A.b ∧ w.heap.size ≤ A.bn ∧ w.heap.size ≤ A.bh ∧ w.heap.size ≤ A.bo) (hlf : LF l' 3 A.n) (hl : l'.length = 3 + (A.n + 1)) (po : Po A (fun _ => .slice none 0 0) (fun _ => 0) (fun _ => false) (fun _ => .slice none 0 0) l' ((A.n : Int) + 1) w3) (bl : Below w.heap.size w w3) :
    Mx A (fun _ => .slice none 0 0) (fun _ => 0) (fun _ => false) (fun _ => .slice none 0 0) l' ((A.n : Int) + 1) (fun _ => []) (List.range' 0 A.n) (fun _ => .st) (fun _ => none) w.heap.size [] w3 := by
  have ht : nth l' A.base = 1 := by rw [hbase]; exact hlf.top
  refine ⟨⟨by omega, by omega, fun m hm => ?_, fun m => ?_, fun i hi m => ?_, fun m hm i hi => (by cases hi), List.nodup_range', fun i hi => List.nodup_nil, fun i hi => (by simp), fun i hi x hx => (by cases hx), fun m hm i hi => ?_, by omega, by omega, ?_, ?_⟩, po, hAk, by omega, fun i hi => .inl ⟨rfl, rfl⟩, fun i hi b hb => (by simp [vblk] at hb), fun i hi => ⟨by omega, by simp⟩, fun i hi => (by simp at hi), bl.size, fun i hi x hx => (by cases hx)⟩
  · simp
  · simp [List.mem_range'_1]
  · simp
  · rcases hi with hi | hi <;> cases hi
  · rw [ht]; unfold ver; omega
  · rw [ht, tpl1, hbase]
    exact lf_stk hlf A.n 0 (by omega)
section
variable {A : Ad} {nv : Nat → Value} {nb : Nat → Int} {hd : Nat → Bool} {ow : Nat → Value} {l : List Int} {s : Int} {own : Nat → List Nat} {st : List Nat} {loc : Nat → Loc} {ac : Nat → Option Xa} {B i : Nat} {H : List Nat} {w w1 : World} {x : Xa}
variable {q g n cap qa qh : Nat} {hvv : Nat → Int} {hl : Nat → Value} {L : Nat → List Nat} {bx : Nat → Nat} {fr : Nat → Int}
/-- more blocks that aren't the pool's -/
theorem mx_app {S V : List Nat} (h : Mx A nv nb hd ow l s own st loc ac B H w) (k : Tw S w w1) (hS : ∀ i, i ∈ S → i ∈ H) (hV : ∀ b, b ∈ V → b < w1.heap.size ∧ (b ∈ H ∨ w.heap.size ≤ b)) : Mx A nv nb hd ow l s own st loc ac B (V ++ H) w1 := by
  have m := h.aside k hS
  have hlt := h.po.lt
  have out : ∀ b, b < w.heap.size → b ∉ H → b ∉ V ++ H := fun b h1 h2 hm => by
    rcases List.mem_append.mp hm with e | e
    · rcases (hV b e).2 with c | c
      · exact h2 c
      · omega
    · exact h2 e
  refine ⟨m.px, m.po, m.k4, m.s0, m.ol, fun i hi b hb => ?_, fun b hb => ?_, fun b hb => ?_, m.hB, fun i hi x hx => ?_⟩
  · obtain ⟨o1, o2, o3⟩ := h.oa i hi b hb
    obtain ⟨_, cur, hc⟩ := (h.ol i hi).blk b hb
    exact ⟨o1, out b (lt_hp hc) o2, o3⟩
  · obtain ⟨o1, o2⟩ := h.ha b hb
    exact ⟨o1, out b (by omega) o2⟩
  · rcases List.mem_append.mp hb with e | e
    · exact (hV b e).1
    · exact m.hw b e
  · obtain ⟨a1, a2, a3, a4⟩ := m.ax i hi x hx
    exact ⟨a1, a2, out _ (lt_hp (h.ax i hi x hx).1) a3, a4⟩
theorem Lv.more (h : Lv q g n cap qa qh B H hvv hl L bx fr ac w) (V : List Nat) : Lv q g n cap qa qh B (V ++ H) hvv hl L bx fr ac w :=
  ⟨h.rh, h.ha, h.hh, h.ol, h.bxs, h.bne, ⟨List.mem_append_right _ h.mem.1, List.mem_append_right _ h.mem.2.1, List.mem_append_right _ h.mem.2.2.1, List.mem_append_right _ h.mem.2.2.2⟩, fun j hj c hc => ⟨List.mem_append_right _ (h.mhl j hj c hc).1, (h.mhl j hj c hc).2⟩, fun j hj x hx => List.mem_append_right _ (h.mbx j hj x hx)⟩
/-- a new list of what one holds, in its old block or in a new one -/
theorem Lv.app {v : Value} {L' : List Nat} (h : Lv q g n cap qa qh B H hvv hl L bx fr ac w) (hi : i < 4) (hw : ∀ c, c ∈ H → c < w.heap.size) (k : Tw (vblk (hl i)) w w1) (ho : Oh B v L' w1) (hv : ∀ b, b ∈ vblk v → b ∈ vblk (hl i) ∨ w.heap.size ≤ b) : Lv q g n cap qa qh B (vblk v ++ H) hvv (upf hl i v) (upf L i L') bx fr ac (w1.setCell ⟨qh, i, none⟩ v) := by
  have hS : ∀ b, b ∈ vblk (hl i) → b ∈ H ∧ b ≠ g ∧ ∀ j, j < 4 → j ≠ i → b ∉ vblk (hl j) := h.mhl i hi
  have ty : ∀ b, b ∈ vblk (hl i) → ∃ cur, w.heap[b]? = some (.cells cur 3 (0, 0)) := fun b hb => ((h.ol i hi).blk b hb).2
  have no : ∀ {c : Nat} {C : Array Value} {t : TypeId}, w.heap[c]? = some (.cells C t (0, 0)) → t ≠ 3 → c ∉ vblk (hl i) := fun hc ht hm => by
    obtain ⟨cur, e⟩ := ty _ hm
    exact absurd rfl (blk_ty hc e ht)
  -- the old state, but for the list of i
  have h1 : Lv q g n cap qa qh B H hvv (upf hl i (.slice none 0 0)) (upf L i []) bx fr ac (w1.setCell ⟨qh, i, none⟩ (.slice none 0 0)) := by
    have k2 : Tw [qh] w1 (w1.setCell ⟨qh, i, none⟩ (.slice none 0 0)) := (Tw.refl _ w1).st qh (.inl (by simp)) i _
    have hh1 := blk_tw h.hh k (no h.hh (by decide))
    have z : ∀ {c : Nat} {C : Array Value} {t : TypeId}, w1.heap[c]? = some (.cells C t (0, 0)) → t ≠ 48 → c ∉ [qh] := fun hc ht hm => by
      simp at hm
      exact absurd hm (blk_ty hc hh1 ht)
    have rg : g ∉ vblk (hl i) := fun hm => (hS g hm).2.1 rfl
    obtain ⟨r1, r2, r3, ⟨cur, r4⟩, r5⟩ := h.rh
    refine ⟨(h.rh.keep k (no r1 (by decide)) rg).keep k2 (z (blk_tw r1 k (no r1 (by decide))) (by decide)) (z (blk_tw r4 k rg) (by decide)), blk_tw (blk_tw h.ha k (no h.ha (by decide))) k2 (z (blk_tw h.ha k (no h.ha (by decide))) (by decide)), ?_, fun j hj => ?_, fun j hj y hy => ?_, h.bne, h.mem, fun j hj b hb => ?_, h.mbx⟩
    · refine (blk_set hh1 i (.slice none 0 0)).trans ?_
      have e : ∀ j, j ≠ i → upf hl i (.slice none 0 0) j = hl j := fun j hj => upf_ne _ _ _ _ hj
      have e2 : upf hl i (.slice none 0 0) i = .slice none 0 0 := upf_at _ _ _
      obtain rfl | rfl | rfl | rfl : i = 0 ∨ i = 1 ∨ i = 2 ∨ i = 3 := by omega
      · rw [e2, e 1 (by omega), e 2 (by omega), e 3 (by omega)]; rfl
      · rw [e2, e 0 (by omega), e 2 (by omega), e 3 (by omega)]; rfl
      · rw [e2, e 0 (by omega), e 1 (by omega), e 3 (by omega)]; rfl
      · rw [e2, e 0 (by omega), e 1 (by omega), e 2 (by omega)]; rfl
    · by_cases e : j = i
      · subst e; rw [upf_at, upf_at]; exact ⟨rfl, .inl ⟨rfl, rfl⟩⟩
      · rw [upf_ne _ _ _ _ e, upf_ne _ _ _ _ e]
        have o1 := (h.ol j hj).keep k (fun b hb hv => (hS b hb).2.2 j hj e hv)
        refine o1.keep k2 (fun b hb hv => ?_)
        obtain ⟨_, cur, hc⟩ := o1.blk b hv
        exact z hc (by decide) hb
    · obtain ⟨b1, b2⟩ := h.bxs j hj y hy
      have b3 := blk_tw b1 k (no b1 (by decide))
      exact ⟨blk_tw b3 k2 (z b3 (by decide)), b2⟩
    · by_cases e : j = i
      · subst e; rw [upf_at] at hb; simp [vblk] at hb
      · rw [upf_ne _ _ _ _ e] at hb
        obtain ⟨c1, c2, c3⟩ := h.mhl j hj b hb
        refine ⟨c1, c2, fun p hp hne => ?_⟩
        by_cases e2 : p = i
        · subst e2; rw [upf_at]; simp [vblk]
        · rw [upf_ne _ _ _ _ e2]; exact c3 p hp hne
  have h2 := h1.more (vblk v)
  have hh1 := blk_tw h.hh k (no h.hh (by decide))
  have ho2 : Oh B v L' (w1.setCell ⟨qh, i, none⟩ (.slice none 0 0)) := ho.keep ((Tw.refl [qh] w1).st qh (.inl (by simp)) i _) (fun b hb hv => by
    simp at hb
    subst hb
    obtain ⟨_, cur, hc⟩ := ho.blk _ hv
    exact absurd rfl (blk_ty hc hh1 (by decide)))
  have h3 := h2.sh hi v L' ho2 (fun b hb => by
    refine ⟨List.mem_append_left _ hb, ?_, fun j hj hne hm => ?_⟩
    · rcases hv b hb with c | c
      · exact (hS b c).2.1
      · have := hw g h.mem.2.1; omega
    · rw [upf_ne _ _ _ _ hne] at hm
      rcases hv b hb with c | c
      · exact (hS b c).2.2 j hj hne hm
      · have := hw b (h.mhl j hj b hm).1; omega)
  rw [upf_upf, upf_upf, setCell_twice _ _ hh1] at h3
  exact h3
end
end Go.Proofs.Ytaihmkflhapjeaa

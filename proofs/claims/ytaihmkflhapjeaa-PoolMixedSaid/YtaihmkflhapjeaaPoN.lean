/-
  PoolAlone: a round's end: Own, Shared, Once.
-/
import Derived.Test.YtaihmkflhapjeaaPoM
import Derived.Test.YtaihmkflhapjeaaAp
namespace Go.Proofs.Ytaihmkflhapjeaa
open Go.RowKit Go.MuLone
set_option linter.unusedVariables false
theorem al_shared {A : Ad} {nv : Nat → Value} {nb : Nat → Int} {hd : Nat → Bool} {own st : List Nat} {s : Int} {B : Nat} {H : List Nat} {ow : Nat → Value} {l : List Int} {w : World} (h : Al A nv nb hd own st s B H ow l w) (hl : st.length ≤ A.n) :
    Calls Try.prog 15 #[.pointer (some ⟨A.p, 0, none⟩)] w fun e w' => ∃ x c, e = .returned (.slice x st.length c) ∧ Ints w' x (ints st) ∧ Al A nv nb hd own st s B H ow l w' ∧ Tw [A.g, A.b] w w' := by
  refine (shared_any (nth l A.base) st rfl h.t0 h.t1 h.sk hl h.po).mono ?_
  rintro e w' ⟨v, rfl, ho, hp, ht⟩
  obtain ⟨x, c, rfl⟩ := own_sl ho
  refine ⟨x, c, rfl, fun j hj => ?_, ⟨hp, h.ol.keep ht (fun i hi hv => ?_), h.oa, h.oh, h.ha, fun i hi => Nat.lt_of_lt_of_le (h.hw i hi) ht.size, Nat.le_trans h.hB ht.size, h.t0, h.t1, h.sk, h.o2, h.fr, h.nd, h.cm, h.s0, h.s1, h.k1⟩, ht⟩
  · rw [ints_len] at hj
    have hm : (ints st).map (Value.int .i64) = st.map iv := by unfold ints; rw [List.map_map]; rfl
    rcases ho.2 with ⟨h', _⟩ | ⟨g', cap', cur', hv, hg', hb, _⟩
    · have := congrArg slen h'; simp [slen] at this; omega
    · cases hv
      have HO : Own w.heap.size g' st.length c (ints st) w' w' := ⟨ints_len st, hg', by rw [hm]; exact ho, Below.refl _ _⟩
      obtain ⟨cur, hcu⟩ := HO.blk
      exact ⟨g', 0, rfl, lt_hp hcu, by rw [Nat.zero_add]; exact HO.cell j hj⟩
  · have := h.oa i hv
    simp at hi
    omega
section
variable {A : Ad} {q g cap B : Nat} {w0 w w1 : World} {k : Nat} {b : Int}
theorem Sta.bel (h : Sta A q g cap B w0 k b w) : Below B w0 w := by
  obtain ⟨nv, nb, hd, own, st, s, ow, l, h1, h2, h3, h4, h5, h6⟩ := h
  exact h5
def Sta1 (A : Ad) (q g cap B : Nat) (w0 : World) (k : Nat) (b : Int) (own : List Nat) (x : Option Addr) (C : Nat) (w : World) : Prop := ∃ nv nb hd st s ow l, Al A nv nb hd own st s B [q, g] ow l w ∧ RH q g A.n cap hd w ∧ own.length + st.length = k ∧ s ≤ b ∧ Below B w0 w ∧ B ≤ g ∧ B ≤ q ∧ Ints w x (ints own) ∧ (∀ i o, x = some ⟨i, o, none⟩ → own ≠ [] → C ≤ i) ∧ A.g < C ∧ A.b < C
def Sta2 (A : Ad) (q g cap B : Nat) (w0 : World) (k : Nat) (b : Int) (own st : List Nat) (x1 x2 : Option Addr) (w : World) : Prop := ∃ nv nb hd s ow l, Al A nv nb hd own st s B [q, g] ow l w ∧ RH q g A.n cap hd w ∧ own.length + st.length = k ∧ s ≤ b ∧ Below B w0 w ∧ B ≤ g ∧ B ≤ q ∧ Ints w x1 (ints own) ∧ Ints w x2 (ints st)
theorem sta_own (h : Sta A q g cap B w0 k b w) : Calls Try.prog 14 #[.pointer (some ⟨A.p, 0, none⟩), .int .i64 0] w fun e w' => ∃ x c own C, e = .returned (.slice x own.length c) ∧ Sta1 A q g cap B w0 k b own x C w' := by
  obtain ⟨nv, nb, hd, own, st, s, ow, l, h1, h2, h3, h4, h5, h6, h7⟩ := h
  refine (own_any h1).mono ?_
  rintro e w' ⟨v, rfl, hl, hb⟩
  have hi := hl.ints
  obtain ⟨x, c, rfl, hi⟩ := hi
  have hlt := h1.po.lt
  refine ⟨x, c, own, w.heap.size, by rw [ints_len], nv, nb, hd, st, s, ow, l, h1.up hb, h2.up hb, h3, h4, h5.trans (hb.mono h1.hB), h6, h7, hi, fun i o hx hne => ?_, hlt.2.1, hlt.2.2.1⟩
  rcases hl with ⟨e1, e2⟩ | ⟨g2, cap2, cur2, e1, e2, _⟩
  · injection e1 with e3 e4 e5; rw [e3] at hx; cases hx
  · injection e1 with e3 e4 e5; rw [e3] at hx; cases hx; exact e2
theorem sta_shared {own : List Nat} {x : Option Addr} {C : Nat} (hk : k ≤ A.n) (h : Sta1 A q g cap B w0 k b own x C w) : Calls Try.prog 15 #[.pointer (some ⟨A.p, 0, none⟩)] w fun e w' => ∃ x2 c2 st, e = .returned (.slice x2 st.length c2) ∧ Sta2 A q g cap B w0 k b own st x x2 w' := by
  obtain ⟨nv, nb, hd, st, s, ow, l, h1, h2, h3, h4, h5, h6, h7, h8, h9, h10, h11⟩ := h
  refine (al_shared h1 (by omega)).mono ?_
  rintro e w' ⟨x2, c2, rfl, hi, ha, ht⟩
  have ag := h1.ha A.g (by simp)
  have ab := h1.ha A.b (by simp)
  have nq : ∀ i, i ∈ [q, g] → i ∉ [A.g, A.b] := fun i hi hm => by
    simp only [List.mem_cons, List.not_mem_nil, or_false] at hm
    rcases hm with rfl | rfl
    · exact ag.2 hi
    · exact ab.2 hi
  refine ⟨x2, c2, st, rfl, nv, nb, hd, s, ow, l, ha, h2.keep ht (nq q (by simp)) (nq g (by simp)), h3, h4, ht.below h5 (fun i hi => ?_) h1.hB, h6, h7, fun j hj => ?_, hi⟩
  · simp only [List.mem_cons, List.not_mem_nil, or_false] at hi
    rcases hi with rfl | rfl
    · exact ag.1
    · exact ab.1
  · obtain ⟨b1, o1, rfl, hlt, hc⟩ := h8 j hj
    have hne : own ≠ [] := fun e => by subst e; simp [ints] at hj
    have := h9 b1 o1 rfl hne
    exact ⟨b1, o1, rfl, Nat.lt_of_lt_of_le hlt ht.size, (cell_tw ht hlt (by simp; omega) (o1 + j)).trans hc⟩
theorem sta_once {own st : List Nat} {x1 x2 : Option Addr} {c1 c2 : Nat} (h0 : 1 ≤ A.n) (hn : A.n ≤ 1000) (hk : k ≤ 1000) (h : Sta2 A q g cap B w0 k b own st x1 x2 w) : Calls Try.prog 24 #[.pointer (some ⟨q, 0, none⟩), .slice (some ⟨w.heap.size, 0, none⟩) 2 2] (w.alloc (.cells #[.slice x1 own.length c1, .slice x2 st.length c2] 36)) fun e w' => e = .returned (.bool true) ∧ Sta A q g cap B w0 k b w' := by
  obtain ⟨nv, nb, hd, s, ow, l, h1, h2, h3, h4, h5, h6, h7, h8, h9⟩ := h
  have ba := bl_al (Below.refl w.heap.size w) (.cells #[.slice x1 own.length c1, .slice x2 st.length c2] 36)
  have hh : (w.alloc (.cells #[.slice x1 own.length c1, .slice x2 st.length c2] 36)).heap[w.heap.size]? = some (.cells #[.slice x1 own.length c1, .slice x2 st.length c2] 36 (0, 0)) := by
    show (w.heap.push _)[w.heap.size]? = _
    simp
  refine (once_any q g A.n cap w.heap.size c1 c2 x1 x2 hd own st h0 hn (by omega) _ (h2.up ba) hh (h8.keep ba) (h9.keep ba) h1.fr h1.nd h1.cm).mono ?_
  rintro e w' ⟨rfl, hb⟩
  have hs := bl_tr ba hb
  exact ⟨rfl, nv, nb, hd, own, st, s, ow, l, h1.up hs, h2.up hs, h3, h4, h5.trans (hs.mono h1.hB), h6, h7⟩
theorem sta_give2 (m : Nat) (hm : m < A.n) (hc : w.cell? ⟨g, m, none⟩ = some (.int .i64 0)) (h : Sta A q g cap B w0 k b w) : Calls Try.prog 13 #[.pointer (some ⟨A.p, 0, none⟩), .int .i64 0, .int .i64 (m : Int)] w fun e w' => Bg A q g cap B w0 k b true 0 m e w' ∧ w'.cell? ⟨g, m, none⟩ = some (.int .i64 0) := by
  have h' := h
  obtain ⟨nv, nb, hd, own, st, s, ow, l, k1, ⟨r1, r2, r3, ⟨cur, r4⟩, r5⟩, k3, k4⟩ := h'
  refine (give_any 0 m (by omega) (by rw [k1.k1]; omega) (by omega) (by omega) k1.po).mono fun e w' hb => ⟨begins h hb, ?_⟩
  obtain ⟨a, _, _, _, h3⟩ := hb
  exact (h3.cell (p := ⟨g, m, none⟩) (lt_hp r4)).trans hc
theorem Pend.cells2 {m : Nat} {v : Bool} {a : Nat} (hm : m < A.n) (h : Pend A q g cap B w0 m v k b w) : w.cell? ⟨q, 0, none⟩ = some (.slice (some ⟨g, 0, none⟩) A.n cap) ∧ w.frozen? ⟨g, m, none⟩ = false :=
  ⟨(h.cells hm).1, (h.cells hm).2.2.1 m⟩
/-- the next slot -/
theorem nxt {n s j : Nat} (hs : s < n) (hj : j < n) (hne : s ≠ j) : ∃ s2 : Nat, s2 < n ∧ ((s : Int) + 1).tmod (n : Int) = (s2 : Int) ∧ (if s2 ≤ j then j - s2 else j + n - s2) < (if s ≤ j then j - s else j + n - s) := by
  by_cases h : s + 1 < n
  · refine ⟨s + 1, h, ?_, ?_⟩
    · rw [Int.tmod_eq_emod_of_nonneg (by omega), Int.emod_eq_of_lt (by omega) (by omega)]; rfl
    · split <;> split <;> omega
  · refine ⟨0, by omega, ?_, ?_⟩
    · rw [show ((s : Int) + 1) = (n : Int) by omega, Int.tmod_self]; rfl
    · split <;> split <;> omega
theorem rem_n (x : Int) (n : Nat) (hn : 1 ≤ n) (hn2 : n ≤ 1000) : ∃ (U : Int) (s : Nat), IntKind.u64.wrap x = U ∧ 0 ≤ U ∧ U.tmod (n : Int) = (s : Int) ∧ U % (n : Int) = (s : Int) ∧ s < n ∧ IntKind.i64.wrap (s : Int) = (s : Int) := by
  have h0 : 0 ≤ IntKind.u64.wrap x := (u64_bd x).1
  have h1 : 0 ≤ IntKind.u64.wrap x % (n : Int) := Int.emod_nonneg _ (by omega)
  have h2 : IntKind.u64.wrap x % (n : Int) < (n : Int) := Int.emod_lt_of_pos _ (by omega)
  obtain ⟨s, hs⟩ := Int.eq_ofNat_of_zero_le h1
  exact ⟨_, s, rfl, h0, by rw [Int.tmod_eq_emod_of_nonneg h0]; exact hs, hs, by omega, IntWalk.i64_in _ (by omega)⟩
end
end Go.Proofs.Ytaihmkflhapjeaa

/-
  The walk through kurganlaw17.TapeTells.
-/
import Derived.Test.YtdeflnnbnabbgaaApp
namespace Go.Proofs.Ytdeflnnbnabbgaa
open Go.RowKit
set_option linter.unusedVariables false
theorem own0' (w : World) (B : Nat) (h : B ≤ w.heap.size) : (w.alloc (.cells #[] 3)).ownsRow B 3 1 (.slice (some ⟨w.heap.size, 0, none⟩) 0 0) 0 [] := World.ownsRow_lit w #[] 0 h (by decide) (by decide)
theorem row_blk {w : World} {B g n cap : Nat} {xs : List Value} (h : w.ownsRow B 3 1 (.slice (some ⟨g, 0, none⟩) n cap) n xs) : B ≤ g ∧ g < w.heap.size := by
  rcases h.2 with ⟨h', _⟩ | ⟨g', cap', cur, h', hB, hg, _⟩
  · cases h'
  · injection h' with h' _ _
    injection h' with h'
    injection h' with h'
    subst h'
    exact ⟨hB, lt_hp hg⟩
theorem row_keep {w w1 : World} {B g n cap : Nat} {xs : List Value} (h : w.ownsRow B 3 1 (.slice (some ⟨g, 0, none⟩) n cap) n xs) (hb : w1.heap[g]? = w.heap[g]?) : w1.ownsRow B 3 1 (.slice (some ⟨g, 0, none⟩) n cap) n xs := by
  obtain ⟨a1, a2⟩ := h
  refine ⟨a1, ?_⟩
  rcases a2 with hn | ⟨g', cap', cur', hv, hg', hh, r⟩
  · exact .inl hn
  · injection hv with hv h2 h3
    injection hv with hv
    injection hv with hv
    subst hv
    exact .inr ⟨g, cap', cur', by rw [h3], hg', hb.trans hh, r⟩
theorem row_other {w w1 : World} {B g y n cap : Nat} {xs : List Value} (h : w.ownsRow B 3 1 (.slice (some ⟨g, 0, none⟩) n cap) n xs) (k : w.grownBy w1 (some y)) (hne : g ≠ y) : w1.ownsRow B 3 1 (.slice (some ⟨g, 0, none⟩) n cap) n xs :=
  row_keep h (k.block g (row_blk h).2 (fun e => hne (by injection e)))
/-- both lists lie in blocks of their own -/
def Two (B : Nat) (lp ld : List Int) (w : World) (v1 v2 : Value) (wx : World) : Prop := ∃ g1 c1 g2 c2, v1 = .slice (some ⟨g1, 0, none⟩) lp.length c1 ∧ v2 = .slice (some ⟨g2, 0, none⟩) ld.length c2 ∧ Own B g1 lp.length c1 lp w wx ∧ Own B g2 ld.length c2 ld w wx ∧ g1 ≠ g2
theorem two_of (B x y g1 c1 g2 c2 : Nat) (lp ld : List Int) (w X1 X2 X3 X4 : World) (hb : Below B w X1) (hx : B ≤ x) (hBX : B ≤ X1.heap.size) (hy : B ≤ y)
    (o1 : X2.ownsRow B 3 1 (.slice (some ⟨g1, 0, none⟩) lp.length c1) lp.length (lp.map (Value.int .i64))) (k1 : X1.grownBy X2 (some x)) (e1 : g1 = x ∨ X1.heap.size ≤ g1)
    (hX : Below X2.heap.size X2 X3) (hxy : g1 ≠ y) (hyX : y < X3.heap.size)
    (o2 : X4.ownsRow B 3 1 (.slice (some ⟨g2, 0, none⟩) ld.length c2) ld.length (ld.map (Value.int .i64))) (k2 : X3.grownBy X4 (some y)) (e2 : g2 = y ∨ X3.heap.size ≤ g2) :
    Two B lp ld w (.slice (some ⟨g1, 0, none⟩) lp.length c1) (.slice (some ⟨g2, 0, none⟩) ld.length c2) X4 := by
  have b1 := row_blk o1
  have o1' := row_other (row_keep o1 (hX.block g1 b1.2)) k2 hxy
  have hB2 : Below B w X2 := hb.grown k1 hBX (fun j hj => by injection hj with hj; omega)
  have s2 := k1.size
  have hB3 : Below B w X3 := hB2.trans (hX.mono (by omega))
  have s3 := hX.size
  have hB4 : Below B w X4 := hB3.grown k2 (by omega) (fun j hj => by injection hj with hj; omega)
  exact ⟨g1, c1, g2, c2, rfl, rfl, ⟨rfl, b1.1, o1', hB4⟩, ⟨rfl, (row_blk o2).1, o2, hB4⟩, by rcases e2 with e2 | e2 <;> omega⟩
theorem arg_src {K : Nat} {w X : World} {a : Option Addr} {n c : Nat} {l : List Int} (h : Arg K w a n c l) (hb : Below w.heap.size w X) : SrcA X a c l := by
  rcases h.keep hb with ⟨rfl, rfl, rfl, rfl⟩ | ⟨ad, rfl, rfl, q2, rfl⟩ | ⟨b, o, rfl, q1, q2, q3, q4, q5⟩
  · exact .inl ⟨rfl, rfl, rfl⟩
  · exact .inr ⟨ad, rfl, fun j u hj => by simp at hj⟩
  · refine .inr ⟨_, rfl, fun j u hj => ?_⟩
    rw [List.getElem?_map] at hj
    have hlt : j < l.length := by
      rcases Nat.lt_or_ge j l.length with h | h
      · exact h
      · rw [List.getElem?_eq_none h] at hj; cases hj
    have hc := q4 j hlt
    rw [nth_at l j hlt] at hc
    rw [List.getElem?_eq_getElem hlt] at hj
    simp at hj
    rw [← hj]
    have e : (⟨b, o, none⟩ : Addr).add j = ⟨b, o + j, none⟩ := by
      unfold Addr.add
      split <;> simp_all
    rw [e]
    exact hc
theorem arg_min {w : World} {a : Option Addr} {n c : Nat} {l : List Int} (h : Arg 50 w a n c l) : min (n : Int) 50 = (l.length : Int) := by
  rcases h with ⟨rfl, rfl, rfl, rfl⟩ | ⟨ad, rfl, rfl, q2, rfl⟩ | ⟨b, o, rfl, q1, q2, q3, q4, q5⟩
  · rfl
  · rfl
  · omega
theorem sl_run (w : World) (a : Option Addr) (n c : Nat) (l : List Int) (h : Arg 50 w a n c l) : ∀ W : World, (Instr.sliceAt 22 (.slice a n c) none (some (.int .i64 (l.length : Int))) none).run Try.prog W = .ok (.slice a l.length c) W := fun W => by
  rcases h with ⟨rfl, rfl, rfl, rfl⟩ | ⟨ad, rfl, rfl, q2, rfl⟩ | ⟨b, o, rfl, q1, q2, q3, q4, q5⟩
  · go_simp
  · go_simp
  · have h1 : (l.length : Int) ≤ (c : Int) := by omega
    go_simp
theorem sl_run2 (w : World) (a : Option Addr) (n c : Nat) (l : List Int) (h : Arg 50 w a n c l) : ∀ W : World, (Instr.slice 22 (.slice a n c) none (some (.int .i64 (l.length : Int))) none).run Try.prog W = .ok (.slice a l.length c) W := fun W => by
  rcases h with ⟨rfl, rfl, rfl, rfl⟩ | ⟨ad, rfl, rfl, q2, rfl⟩ | ⟨b, o, rfl, q1, q2, q3, q4, q5⟩
  · go_simp
  · go_simp
  · have h1 : (l.length : Int) ≤ (c : Int) := by omega
    go_simp
theorem arg_len {K : Nat} {w : World} {a : Option Addr} {n c : Nat} {l : List Int} (h : Arg K w a n c l) : l.length ≤ n ∧ l.length ≤ K ∧ (l.length = n ∨ l.length = K) := by
  rcases h with ⟨rfl, rfl, rfl, rfl⟩ | ⟨ad, rfl, rfl, q2, rfl⟩ | ⟨b, o, rfl, q1, q2, q3, q4, q5⟩
  · simp
  · simp
  · omega
theorem Arg.ints {K : Nat} {w : World} {a : Option Addr} {n c : Nat} {l : List Int} (h : Arg K w a n c l) : Ints w a l := by
  rcases h with ⟨rfl, rfl, rfl, rfl⟩ | ⟨ad, rfl, rfl, q2, rfl⟩ | ⟨b, o, rfl, q1, q2, q3, q4, q5⟩
  · exact ints_nil _ _
  · exact ints_nil _ _
  · exact fun j hj => ⟨b, o, rfl, q3, q4 j hj⟩
/-- a list that came in, with what its numbers may be -/
def ArgW (K : Nat) (W : World) (a : Option Addr) (n c : Nat) (l : List Int) : Prop := Arg K W a n c l ∧ ∀ j, -9223372036854775808 ≤ nth l j ∧ nth l j ≤ 9223372036854775807
theorem row_la {w : World} {B g c : Nat} {l : List Int} (h : w.ownsRow B 3 1 (.slice (some ⟨g, 0, none⟩) l.length c) l.length (l.map (Value.int .i64))) : LA B w (some ⟨g, 0, none⟩) l := by
  have hB := (row_blk h).1
  have o : Own g g l.length c l w w := ⟨rfl, Nat.le_refl _, ?_, Below.refl _ _⟩
  · have := o.la
    exact this.mono hB
  · obtain ⟨a1, a2⟩ := h
    refine ⟨a1, ?_⟩
    rcases a2 with hn | ⟨g', cap', cur', hv, hg', r⟩
    · exact .inl hn
    · injection hv with hv h2 h3
      injection hv with hv
      injection hv with hv
      subst hv
      exact .inr ⟨g, cap', cur', by rw [h3], Nat.le_refl _, r⟩
theorem own_src {B g n c : Nat} {l : List Int} {w0 X Y : World} (h : Own B g n c l w0 X) (hb : Below X.heap.size X Y) : SrcA Y (some ⟨g, 0, none⟩) c l := by
  have h' := h.keep hb
  refine .inr ⟨_, rfl, fun j u hj => ?_⟩
  rw [List.getElem?_map] at hj
  have hlt : j < l.length := by
    rcases Nat.lt_or_ge j l.length with h | h
    · exact h
    · rw [List.getElem?_eq_none h] at hj; cases hj
  have hc := h'.cell j (by rw [← h.1]; exact hlt)
  rw [nth_at l j hlt] at hc
  rw [List.getElem?_eq_getElem hlt] at hj
  simp at hj
  rw [← hj]
  have e : (⟨g, 0, none⟩ : Addr).add j = ⟨g, j, none⟩ := by
    unfold Addr.add
    split <;> simp_all
  rw [e]
  exact hc
theorem gr_all {S g : Nat} {X Y : World} (hg : S ≤ g) (k : X.grownBy Y (some g)) (hs : S ≤ X.heap.size) : Below S X Y := (Below.refl S X).grown k hs (fun j hj => by injection hj with hj; omega)
set_option maxRecDepth 100000 in
set_option maxHeartbeats 8000000 in
theorem tells_core (lp ld la : List Int) (pa da aa : Option Addr) (pn pc dn dc an ac : Nat) (w : World) (sp : Arg 50 w pa pn pc lp) (sd : Arg 50 w da dn dc ld) (sa : ArgW 60 w aa an ac la) :
    Calls Try.prog 3 #[.slice pa pn pc, .slice da dn dc, .slice aa an ac] w fun e w' => e = .returned (.bool true) ∧ Below w.heap.size w w' := by
  have hlp : lp.length ≤ 1000 := by have := sp.len; omega
  have hld : ld.length ≤ 1000 := by have := sd.len; omega
  have T := Lib.hid tapes_any
  go_enter Try.func3, Try.ntmps3
  go_wp2_with fail
  refine (none_any _).mono ?_; rintro e w1 ⟨rfl, rfl⟩
  go_wp2_with fail
  refine (used_nil _).mono ?_; rintro e w1 ⟨rfl, rfl⟩
  go_wp2_with fail
  refine (T.out _).mono ?_; rintro e w1 ⟨rfl, hb⟩
  have B1 := Lib.hid hb
  clear hb
  go_wp2_with fail
  refine (none_any _).mono ?_; rintro e w2 ⟨rfl, rfl⟩
  go_wp2_with fail
  refine (pick_nil _ _).mono ?_; rintro e w2 ⟨rfl, rfl⟩
  go_wp2_with fail
  refine (none_any _).mono ?_; rintro e w2 ⟨rfl, rfl⟩
  go_wp2_with fail
  refine (draw_nil _ _).mono ?_; rintro e w2 ⟨rfl, rfl⟩
  go_upto_region 4 with fail
  go_cut [9, 10] (fun v1 v2 wx => Hid (Two w.heap.size lp ld w v1 v2 wx))
  case first =>
    have BB := Lib.hid (bl_tr B1.out (bl_drew w1))
    have SP := Lib.hid (fun X (h : Below w.heap.size w X) => arg_src sp h)
    have SD := Lib.hid (fun X (h : Below w.heap.size w X) => arg_src sd h)
    have m1 : min (pn : Int) 50 = (lp.length : Int) := arg_min sp
    have m2 : min (dn : Int) 50 = (ld.length : Int) := arg_min sd
    have hs1 : w.heap.size ≤ w1.heap.size := B1.out.size
    have Hw2 := Lib.hid (show w.heap.size ≤ (((w1.alloc (.cells #[] 3)).alloc (.cells #[] 3)).drew).heap.size by simp; omega)
    have Hw1 := Lib.hid (show w.heap.size ≤ ((w1.alloc (.cells #[] 3)).drew).heap.size by simp; omega)
    have Bw1 : Hid (Below w.heap.size w ((w1.alloc (.cells #[] 3)).drew)) := bl_tr (bl_al B1.out _) (bl_drew _)
    have Bw2 : Hid (Below w.heap.size w (((w1.alloc (.cells #[] 3)).alloc (.cells #[] 3)).drew)) := bl_tr (bl_al (bl_al B1.out _) _) (bl_drew _)
    have Oa1 : Hid (((w1.alloc (.cells #[] 3)).drew).ownsRow w.heap.size 3 1 (.slice (some ⟨w1.heap.size, 0, none⟩) 0 0) 0 []) := own0' w1 _ hs1
    have Oa2 : Hid ((((w1.alloc (.cells #[] 3)).alloc (.cells #[] 3)).drew).ownsRow w.heap.size 3 1 (.slice (some ⟨w1.heap.size, 0, none⟩) 0 0) 0 []) := (own0' w1 _ hs1).alloc _
    have Ob2 : Hid ((((w1.alloc (.cells #[] 3)).alloc (.cells #[] 3)).drew).ownsRow w.heap.size 3 1 (.slice (some ⟨w1.heap.size + 1, 0, none⟩) 0 0) 0 []) := by
      have := own0' (w1.alloc (.cells #[] 3)) w.heap.size (by simp; omega)
      simp at this
      exact this
    have F1 : Hid (∀ (g cap : Nat) (X' : World) (g2 cap2 : Nat) (X4 : World), X'.ownsRow w.heap.size 3 1 (.slice (some ⟨g, 0, none⟩) lp.length cap) lp.length (lp.map (Value.int .i64)) → ((w1.alloc (.cells #[] 3)).drew).grownBy X' (some w1.heap.size) → (g = w1.heap.size ∨ ((w1.alloc (.cells #[] 3)).drew).heap.size ≤ g) →
        X4.ownsRow w.heap.size 3 1 (.slice (some ⟨g2, 0, none⟩) ld.length cap2) ld.length (ld.map (Value.int .i64)) → (X'.alloc (.cells #[] 3)).grownBy X4 (some X'.heap.size) → (g2 = X'.heap.size ∨ (X'.alloc (.cells #[] 3)).heap.size ≤ g2) → Two w.heap.size lp ld w (.slice (some ⟨g, 0, none⟩) lp.length cap) (.slice (some ⟨g2, 0, none⟩) ld.length cap2) X4) := fun g cap X' g2 cap2 X4 ho hk he ho2 hk2 he2 =>
      two_of w.heap.size w1.heap.size X'.heap.size g cap g2 cap2 lp ld w _ X' _ X4 Bw1.out hs1 Hw1.out (Nat.le_trans Hw1.out hk.size) ho hk he (bl_al (Below.refl _ _) _) (by have := (row_blk ho).2; omega) (by simp) ho2 hk2 he2
    have F2 : Hid (∀ (g cap : Nat) (X' : World) (g2 cap2 : Nat) (X4 : World), X'.ownsRow w.heap.size 3 1 (.slice (some ⟨g, 0, none⟩) lp.length cap) lp.length (lp.map (Value.int .i64)) → (((w1.alloc (.cells #[] 3)).alloc (.cells #[] 3)).drew).grownBy X' (some w1.heap.size) → (g = w1.heap.size ∨ (((w1.alloc (.cells #[] 3)).alloc (.cells #[] 3)).drew).heap.size ≤ g) →
        X4.ownsRow w.heap.size 3 1 (.slice (some ⟨g2, 0, none⟩) ld.length cap2) ld.length (ld.map (Value.int .i64)) → X'.grownBy X4 (some (w1.heap.size + 1)) → (g2 = w1.heap.size + 1 ∨ X'.heap.size ≤ g2) → Two w.heap.size lp ld w (.slice (some ⟨g, 0, none⟩) lp.length cap) (.slice (some ⟨g2, 0, none⟩) ld.length cap2) X4) := fun g cap X' g2 cap2 X4 ho hk he ho2 hk2 he2 =>
      two_of w.heap.size w1.heap.size (w1.heap.size + 1) g cap g2 cap2 lp ld w _ X' X' X4 Bw2.out hs1 Hw2.out (by omega) ho hk he (Below.refl _ _) (by simp at he; omega) (by have := hk.size; simp at this; omega) ho2 hk2 he2
    have F3 : Hid (∀ (g cap : Nat) (X' : World) (g2 cap2 : Nat) (X4 : World), X'.ownsRow w.heap.size 3 1 (.slice (some ⟨g, 0, none⟩) lp.length cap) lp.length (lp.map (Value.int .i64)) → (((w1.alloc (.cells #[] 3)).alloc (.cells #[] 3)).drew).grownBy X' (some (w1.heap.size + 1)) → (g = w1.heap.size + 1 ∨ (((w1.alloc (.cells #[] 3)).alloc (.cells #[] 3)).drew).heap.size ≤ g) →
        X4.ownsRow w.heap.size 3 1 (.slice (some ⟨g2, 0, none⟩) ld.length cap2) ld.length (ld.map (Value.int .i64)) → X'.grownBy X4 (some w1.heap.size) → (g2 = w1.heap.size ∨ X'.heap.size ≤ g2) → Two w.heap.size lp ld w (.slice (some ⟨g, 0, none⟩) lp.length cap) (.slice (some ⟨g2, 0, none⟩) ld.length cap2) X4) := fun g cap X' g2 cap2 X4 ho hk he ho2 hk2 he2 =>
      two_of w.heap.size (w1.heap.size + 1) w1.heap.size g cap g2 cap2 lp ld w _ X' X' X4 Bw2.out (by omega) Hw2.out hs1 ho hk he (Below.refl _ _) (by simp at he; omega) (by have := hk.size; simp at this; omega) ho2 hk2 he2
    have G1 : Hid (∀ (X' : World), ((w1.alloc (.cells #[] 3)).drew).grownBy X' (some w1.heap.size) → Below w.heap.size w X' ∧ w.heap.size ≤ X'.heap.size) := fun X' hk => ⟨Bw1.out.grown hk Hw1.out (fun j hj => by injection hj with hj; omega), Nat.le_trans Hw1.out hk.size⟩
    have G2 : Hid (∀ (X' : World) (s : Nat), s = w1.heap.size ∨ s = w1.heap.size + 1 → (((w1.alloc (.cells #[] 3)).alloc (.cells #[] 3)).drew).grownBy X' (some s) → Below w.heap.size w X' ∧ w.heap.size ≤ X'.heap.size) := fun X' s hs hk => ⟨Bw2.out.grown hk Hw2.out (fun j hj => by injection hj with hj; omega), Nat.le_trans Hw2.out hk.size⟩
    have hsl1 := sl_run w pa pn pc lp sp
    have hsl2 := sl_run2 w pa pn pc lp sp
    have hsl3 := sl_run w da dn dc ld sd
    have hsl4 := sl_run2 w da dn dc ld sd
    have m1i : (if (50 : Int) < (pn : Int) then (50 : Int) else (pn : Int)) = (lp.length : Int) := by split <;> omega
    have m2i : (if (50 : Int) < (dn : Int) then (50 : Int) else (dn : Int)) = (ld.length : Int) := by split <;> omega
    have n1 : (lp.length : Int) ≤ 1000 := by omega
    have n2 : (ld.length : Int) ≤ 1000 := by omega
    clear sp sd
    go_region_law (first
          | ((refine step_app (by rfl) (.tmp 43) (.tmp 48) (by rfl) (by rfl) w.heap.size _ lp pa pc (by rfl) (by rfl) hlp ?_ ?_ ?_ ?_); (first | (with_reducible exact Oa1.out) | (with_reducible exact Oa2.out) | (with_reducible exact Ob2.out)); (first | (with_reducible exact Hw1.out) | (with_reducible exact Hw2.out)); (first | (with_reducible exact SP.out _ Bw1.out) | (with_reducible exact SP.out _ Bw2.out)); intro g cap X' ho hk he)
          | ((refine step_app (by rfl) (.tmp 50) (.tmp 55) (by rfl) (by rfl) w.heap.size _ ld da dc (by rfl) (by rfl) hld ?_ ?_ ?_ ?_); (first | (with_reducible exact row_other Ob2.out hk (by omega)) | (with_reducible exact row_other Oa2.out hk (by omega)) | (with_reducible exact own0' X' _ (G1.out _ hk).2)); (first | (with_reducible exact (G2.out _ _ (.inl rfl) hk).2) | (with_reducible exact (G2.out _ _ (.inr rfl) hk).2) | exact (Nat.le_trans (G1.out _ hk).2 (bl_al (Below.refl _ X') _).size)); (first | (with_reducible exact SD.out _ (G2.out _ _ (.inl rfl) hk).1) | (with_reducible exact SD.out _ (G2.out _ _ (.inr rfl) hk).1) | exact (SD.out _ (bl_al (G1.out _ hk).1 _))); intro g2 cap2 X4 ho2 hk2 he2)
          | fail)
    all_goals
          have HH : Hid (Two w.heap.size lp ld w (.slice (some ⟨g, 0, none⟩) (List.length lp) cap) (.slice (some ⟨g2, 0, none⟩) (List.length ld) cap2) X4) := by
            first
              | with_reducible exact F1.out g cap X' g2 cap2 X4 ho hk he ho2 hk2 he2
              | with_reducible exact F2.out g cap X' g2 cap2 X4 ho hk he ho2 hk2 he2
              | with_reducible exact F3.out g cap
              | exact F1.out g cap X' g2 cap2 X4 ho hk he ho2 hk2 he2
              | exact F2.out g cap X' g2 cap2 X4 ho hk he ho2 hk2 he2
              | exact F3.out g cap X' g2 cap2 X4 ho hk he ho2 hk2 he2
          clear ho hk he ho2 hk2 he2
          go_wp2_with fail
          go_meet
          exact HH
  case rest =>
    obtain ⟨g1, c1, g2, c2, rfl, rfl, o1, o2, hne⟩ := hcut
    have O1 := Lib.hid o1
    have O2 := Lib.hid o2
    have BW := Lib.hid o1.2.2.2
    have SA := Lib.hid sa
    have SL := Lib.hid (arg_len sa.1)
    have HNE := Lib.hid hne
    clear o1 o2 hne sp sd sa T
    have q1 := O1.out.cap
    have q2 := O2.out.cap
    go_wp2_with (at_builtin; refine wpList_app rfl (.tmp 57) (.tmp 58) rfl rfl wc.heap.size wc.heap.size lp (some ⟨g1, 0, none⟩) c1 rfl rfl hlp (own0' wc _ (Nat.le_refl _)) (by simp) (own_src O1.out (bl_al (Below.refl _ _) _)) ?_)
    intro g3 c3 X3 h3 k3 e3
    have B3 : Below wc.heap.size wc X3 := (bl_al (Below.refl _ wc) _).trans (gr_all (Nat.le_refl _) k3 (by simp))
    have s3 := B3.size
    have H3 := Lib.hid h3
    have HB3 := Lib.hid B3
    clear h3 k3 e3 B3
    go_wp2_with (at_builtin; refine wpList_app rfl (.tmp 60) (.tmp 61) rfl rfl wc.heap.size X3.heap.size ld (some ⟨g2, 0, none⟩) c2 rfl rfl hld (own0' X3 _ s3) (by simp; omega) (own_src O2.out (bl_al HB3.out _)) ?_)
    intro g4 c4 X4 h4 k4 e4
    have L4 := Lib.hid (row_la h4)
    have L3 : Hid (LA wc.heap.size X4 (some ⟨g3, 0, none⟩) lp) := row_la (row_other (row_keep H3.out ((bl_al (Below.refl _ X3) (.cells #[] 3)).block g3 (row_blk H3.out).2)) k4 (by have := (row_blk H3.out).2; omega))
    have B4 : Hid (Below wc.heap.size wc X4) := (bl_al HB3.out _).trans (gr_all s3 k4 (by simp; omega))
    clear h4 k4 e4 H3 HB3
    have R0 : Hid (Rt wc.heap.size X4.heap.size lp ld 0 0 (X4.alloc (.cells #[.slice (some ⟨g3, 0, none⟩) lp.length c3, .slice (some ⟨g4, 0, none⟩) ld.length c4, .int .i64 0, .int .i64 0] 31))) := ⟨_, _, _, _, heap_alloc_new _ _, L3.out.keep (bl_al (Below.refl _ _) _), L4.out.keep (bl_al (Below.refl _ _) _)⟩
    have B5 : Hid (Below wc.heap.size wc (X4.alloc (.cells #[.slice (some ⟨g3, 0, none⟩) lp.length c3, .slice (some ⟨g4, 0, none⟩) ld.length c4, .int .i64 0, .int .i64 0] 31))) := bl_al B4.out _
    have GR := Lib.hid B4.out.size
    clear L3 L4 B4
    have HNw : Hid (∀ X, Below wc.heap.size wc X → Calls Try.prog 11 #[.slice (some ⟨g1, 0, none⟩) lp.length c1, .slice (some ⟨g2, 0, none⟩) ld.length c2] X (NewOf lp ld X)) := fun X hX => by
      have p1 := O1.out.keep hX
      have p2 := O2.out.keep hX
      refine new_any lp ld _ _ X ?_ (fun Y hY => ?_)
      · obtain ⟨cur, hc⟩ := p1.blk
        exact clone_la g1 lp _ c1 q1 hlp (fun h => by cases h) X p1.la (fun x hx => ⟨g1, 0, by injection hx with hx; exact hx.symm, lt_hp hc⟩)
      · obtain ⟨cur, hc⟩ := (p2.keep hY).blk
        exact clone_la g2 ld _ c2 q2 hld (fun h => by cases h) Y (p2.keep hY).la (fun x hx => ⟨g2, 0, by injection hx with hx; exact hx.symm, lt_hp hc⟩)
    have LG1 : Hid (g1 < wc.heap.size) := by
      obtain ⟨cur, hc⟩ := O1.out.blk
      exact lt_hp hc
    go_wp2_with fail
    refine (HNw.out _ B5.out).mono ?_; rintro e X6 ⟨g5, rfl, hg5, t5, b6⟩
    have T6 := Lib.hid t5
    have R6 := Lib.hid (R0.out.keep b6)
    have B6 := Lib.hid (bl_tr B5.out b6)
    have G5 := Lib.hid hg5
    have S5 := Lib.hid B5.out.size
    have O6 := Lib.hid (O1.out.keep (bl_tr B5.out b6))
    clear hg5 t5 b6 R0 B5 HNw O1 O2 q1 q2
    generalize (X4.alloc (.cells #[.slice (some ⟨g3, 0, none⟩) lp.length c3, .slice (some ⟨g4, 0, none⟩) ld.length c4, .int .i64 0, .int .i64 0] 31)).heap.size = S6 at *
    generalize hgr : X4.heap.size = gr at *
    clear hgr
    go_wp2
    go_loopw [13] (fun i wr => ∃ (k : Nat) (l' : List Int), k ≤ lp.length ∧ i = .int .i64 k ∧ Hid (Own w.heap.size g1 lp.length c1 l' w wr) ∧ Hid (X6.grownBy wr (some g1))) (fun i _ => lp.length - (intOf i).toNat)
    case atStart => exact ⟨0, lp, by omega, rfl, O6, World.grownBy.refl _ _⟩
    case round =>
      clear O6
      obtain ⟨k, l', hk, rfl, HO, HG⟩ := hrel
      by_cases hlt : k < lp.length
      · have e1 := HO.out.cell k hlt
        have e2 := HO.out.frozen k
        have HN := Lib.hid (fun v => HO.out.set k v)
        have HGn := Lib.hid (fun v => gx_setCell HG.out k v)
        generalize nth l' k = x at *
        go_wp2
        go_roundw
        case rel => exact ⟨k + 1, _, by omega, by go_num, HN.out _, HGn.out _⟩
        case measure => simp [intOf]; omega
      · obtain rfl : k = lp.length := by omega
        have T7 : Hid (Tp S6 g5 lp ld 0 0 wr) := T6.out.far (by have := LG1.out; have := S5.out; omega) (by have := LG1.out; have := S5.out; have := G5.out; omega) HG.out
        have R7 : Hid (Rt wc.heap.size gr lp ld 0 0 wr) := R6.out.far LG1.out (by have := LG1.out; have := GR.out; omega) HG.out
        have B7 : Hid (Below w.heap.size w wr) := HO.out.2.2.2
        clear HO HG T6 R6
        go_wp2
        go_loopw [14] (fun i wq => ∃ (j a b : Nat), j ≤ la.length ∧ a ≤ j ∧ b ≤ j ∧ i = .int .i64 j ∧ Hid (Tp S6 g5 lp ld a b wq) ∧ Hid (Rt wc.heap.size gr lp ld a b wq) ∧ Hid (Below w.heap.size w wq)) (fun i _ => la.length - (intOf i).toNat)
        case atStart => exact ⟨0, 0, 0, by omega, by omega, by omega, rfl, T7, R7, B7⟩
        case round =>
          clear T7 R7 B7
          obtain ⟨j, a, b, hj, ha, hb, rfl, HT, HR, HB⟩ := hrel
          by_cases hlt : j < la.length
          · have hjn : j < an ∧ j < 60 := by have := SL.out; omega
            obtain ⟨bA, oA, rfl, hbA, hcA⟩ := (SA.out.1.keep HB.out).ints j hlt
            have hz2 : nth la j ≤ 9223372036854775807 := (SA.out.2 j).2
            have i1 : (j : Int) < (an : Int) := by omega
            have i2 : decide (j < an) = true := decide_eq_true (by omega)
            have i3 : decide ((j : Int) < 60) = true := decide_eq_true (by omega)
            have i4 : (0 : Int) ≤ (j : Int) := by omega
            have md : ((j : Int)).tmod 2 = ((j % 2 : Nat) : Int) := rfl
            have md2 : (j : Int) % 2 = ((j % 2 : Nat) : Int) := rfl
            have hm2 : j % 2 < 2 := Nat.mod_lt _ (by decide)
            have HU := Lib.hid (fun a b X (h : Tp S6 g5 lp ld a b X) => used_any S6 g5 lp ld a b X h)
            generalize nth la j = z at *
            by_cases hz : z < 1
            · have P := Lib.hid (fun X => pick_low 0 g5 [] [] 0 0 z hz X)
              have D := Lib.hid (fun X => draw_low 0 g5 [] [] 0 0 z hz X)
              have RP := Lib.hid (fun X => rpick_low gr z hz X)
              have RD := Lib.hid (fun X => rdraw_low gr z hz X)
              generalize j % 2 = md0 at *
              rcases (show md0 = 0 ∨ md0 = 1 by omega) with rfl | rfl
              · go_wp2_with fail
                refine (P.out _).mono ?_; rintro e u1 ⟨rfl, rfl⟩
                go_wp2_with fail
                refine (RP.out _).mono ?_; rintro e u1 ⟨rfl, rfl⟩
                obtain ⟨_, _, _, _, hrd, _, _⟩ := HR.out
                have cr2 := cell_of_row _ gr 2 _ 31 _ hrd
                have cr3 := cell_of_row _ gr 3 _ 31 _ hrd
                simp at cr2 cr3
                clear hrd
                go_wp2_with fail
                refine (HU.out (a) (b) _ HT.out).mono ?_; rintro e u9 ⟨rfl, m9, rfl⟩
                go_wp2
                go_roundw
                case rel => exact ⟨j + 1, a, b, by omega, by omega, by omega, by go_num, HT.out, HR.out, bl_dn HB.out _⟩
                case measure => simp [intOf]; omega
              · go_wp2_with fail
                refine (D.out _).mono ?_; rintro e u1 ⟨rfl, rfl⟩
                go_wp2_with fail
                refine (RD.out _).mono ?_; rintro e u1 ⟨rfl, rfl⟩
                obtain ⟨_, _, _, _, hrd, _, _⟩ := HR.out
                have cr2 := cell_of_row _ gr 2 _ 31 _ hrd
                have cr3 := cell_of_row _ gr 3 _ 31 _ hrd
                simp at cr2 cr3
                clear hrd
                go_wp2_with fail
                refine (HU.out (a) (b) _ HT.out).mono ?_; rintro e u9 ⟨rfl, m9, rfl⟩
                go_wp2
                go_roundw
                case rel => exact ⟨j + 1, a, b, by omega, by omega, by omega, by go_num, HT.out, HR.out, bl_dn HB.out _⟩
                case measure => simp [intOf]; omega
            · have z1 : 1 ≤ z := by omega
              have a1 : a ≤ 1000 := by have := SL.out; omega
              have b1 : b ≤ 1000 := by have := SL.out; omega
              have P := Lib.hid (fun X (h : Tp S6 g5 lp ld a b X) => pick_any S6 g5 lp ld a b z hlp a1 z1 hz2 X h)
              have D := Lib.hid (fun X (h : Tp S6 g5 lp ld a b X) => draw_any S6 g5 lp ld a b z hld b1 z1 hz2 X h)
              have RP := Lib.hid (fun X (h : Rt wc.heap.size gr lp ld a b X) => rpick_any wc.heap.size gr lp ld a b z hlp a1 z1 hz2 X h)
              have RD := Lib.hid (fun X (h : Rt wc.heap.size gr lp ld a b X) => rdraw_any wc.heap.size gr lp ld a b z hld b1 z1 hz2 X h)
              generalize pickOf (told lp a a) z = R1 at *
              generalize pickOf (told ld b 0) z = R2 at *
              have u1 : (R1 != R1) = false := by simp
              have u2 : (R2 != R2) = false := by simp
              generalize j % 2 = md0 at *
              rcases (show md0 = 0 ∨ md0 = 1 by omega) with rfl | rfl
              · go_wp2_with fail
                refine (P.out _ HT.out).mono ?_; rintro e u1 ⟨rfl, ht, hk⟩
                have HT2 := Lib.hid ht
                have HR2 := Lib.hid (HR.out.tp HT.out hk)
                have HB2 := Lib.hid (bl_gr HB.out hk (by have := G5.out; have := S5.out; have := BW.out.size; omega) HB.out.size)
                clear ht hk
                go_wp2_with fail
                refine (RP.out _ HR2.out).mono ?_; rintro e u2 ⟨rfl, ht, hk⟩
                have HR3 := Lib.hid ht
                have HT3 := Lib.hid (HT2.out.rt HR2.out hk)
                have HB3 := Lib.hid (bl_gr HB2.out hk (by have := GR.out; have := BW.out.size; omega) HB2.out.size)
                clear ht hk
                obtain ⟨_, _, _, _, hrd, _, _⟩ := HR3.out
                have cr2 := cell_of_row _ gr 2 _ 31 _ hrd
                have cr3 := cell_of_row _ gr 3 _ 31 _ hrd
                simp at cr2 cr3
                clear hrd
                go_wp2_with fail
                refine (HU.out (a + 1) (b) _ HT3.out).mono ?_; rintro e u9 ⟨rfl, m9, rfl⟩
                go_wp2
                go_roundw
                case rel => exact ⟨j + 1, a + 1, b, by omega, by omega, by omega, by go_num, HT3.out, HR3.out, bl_dn HB3.out _⟩
                case measure => simp [intOf]; omega
              · go_wp2_with fail
                refine (D.out _ HT.out).mono ?_; rintro e u1 ⟨rfl, ht, hk⟩
                have HT2 := Lib.hid ht
                have HR2 := Lib.hid (HR.out.tp HT.out hk)
                have HB2 := Lib.hid (bl_gr HB.out hk (by have := G5.out; have := S5.out; have := BW.out.size; omega) HB.out.size)
                clear ht hk
                go_wp2_with fail
                refine (RD.out _ HR2.out).mono ?_; rintro e u2 ⟨rfl, ht, hk⟩
                have HR3 := Lib.hid ht
                have HT3 := Lib.hid (HT2.out.rt HR2.out hk)
                have HB3 := Lib.hid (bl_gr HB2.out hk (by have := GR.out; have := BW.out.size; omega) HB2.out.size)
                clear ht hk
                obtain ⟨_, _, _, _, hrd, _, _⟩ := HR3.out
                have cr2 := cell_of_row _ gr 2 _ 31 _ hrd
                have cr3 := cell_of_row _ gr 3 _ 31 _ hrd
                simp at cr2 cr3
                clear hrd
                go_wp2_with fail
                refine (HU.out (a) (b + 1) _ HT3.out).mono ?_; rintro e u9 ⟨rfl, m9, rfl⟩
                go_wp2
                go_roundw
                case rel => exact ⟨j + 1, a, b + 1, by omega, by omega, by omega, by go_num, HT3.out, HR3.out, bl_dn HB3.out _⟩
                case measure => simp [intOf]; omega
          · obtain rfl : j = la.length := by omega
            by_cases hja : la.length < an
            · have i3 : la.length = 60 := by have := SL.out; omega
              have i2 : decide (la.length < an) = true := decide_eq_true hja
              have i4 : decide ((la.length : Int) < 60) = false := decide_eq_false (by omega)
              clear i3
              go_wp2
              go_ret
              exact ⟨rfl, HB.out⟩
            · have i2 : decide (la.length < an) = false := decide_eq_false hja
              go_wp2
              go_ret
              exact ⟨rfl, HB.out⟩
end Go.Proofs.Ytdeflnnbnabbgaa

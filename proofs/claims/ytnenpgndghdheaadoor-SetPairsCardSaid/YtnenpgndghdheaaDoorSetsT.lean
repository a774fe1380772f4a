/-
  What List answers; sets() is true.
-/
import Derived.Test.YtnenpgndghdheaaDoorList
import Derived.Test.YtnenpgndghdheaaDoorHas
namespace Go.Proofs.YtnenpgndghdheaaDoor
open Go.RowKit
set_option linter.unusedVariables false
/-- what List answers -/
def ListP (x y : Nat) (w : World) (e : Ending) (W' : World) : Prop := ∃ v, e = .returned v ∧ W'.ownsRow w.heap.size 3 1 v (both x y).length ((both x y).map (Value.int .i64)) ∧ (v = .slice none 0 0 ↔ both x y = []) ∧ Below w.heap.size w W'
theorem listP_up {x y : Nat} {w X : World} {e : Ending} {W' : World} (h : ListP x y X e W') (hb : Below w.heap.size w X) : ListP x y w e W' := by
  obtain ⟨v, h1, h2, h3, h4⟩ := h
  refine ⟨v, h1, ?_, h3, hb.trans (h4.mono hb.size)⟩
  obtain ⟨a1, a2⟩ := h2
  refine ⟨a1, ?_⟩
  rcases a2 with hn | ⟨g, cap, cur, hv, hg, r⟩
  · exact Or.inl hn
  · exact Or.inr ⟨g, cap, cur, hv, Nat.le_trans hb.size hg, r⟩
theorem new_two (X : World) (x y : Int) : (X.alloc (.cells #[.int .u64 x, .int .u64 y] 24)).heap[X.heap.size]? = some (.cells #[.int .u64 x, .int .u64 y] 24 (0, 0)) := by
  show (X.heap.push (Obj.cells #[.int .u64 x, .int .u64 y] 24))[X.heap.size]? = some (Obj.cells #[.int .u64 x, .int .u64 y] 24)
  simp
theorem collect_any (Bs x y : Nat) (hx : x < 18446744073709551616) (hy : y < 18446744073709551616) (w : World) (hT : T64 w) (hBs : Bs < w.heap.size)
    (c0 : w.cell? ⟨Bs, 0, none⟩ = some (.int .u64 x)) (c1 : w.cell? ⟨Bs, 1, none⟩ = some (.int .u64 y)) :
    Calls Tryd.prog 26 #[.func (.func 24) #[] #[.pointer (some ⟨Bs, 0, none⟩)]] w (ListP x y w) := by
  have H : Hid (Calls Tryd.prog 31 #[.slice none 0 0, .func (.func 24) #[] #[.pointer (some ⟨Bs, 0, none⟩)]] w (ListP x y w)) := appendSeq_any Bs x y hx hy w hT hBs c0 c1
  clear c0 c1
  go_enter Tryd.func26, Tryd.ntmps26
  go_wp2_with fail
  refine H.out.mono ?_; rintro e w1 hP
  obtain ⟨v, he, h1, h2, h3⟩ := hP
  subst he
  have HP : Hid (ListP x y w (.returned v) w1) := ⟨v, rfl, h1, h2, h3⟩
  clear h1 h2 h3
  go_wp2
  go_ret
  exact HP.out
theorem list_any (x y : Nat) (hx : x < 18446744073709551616) (hy : y < 18446744073709551616) (w : World) (hT : T64 w) :
    Calls Tryd.prog 15 #[.agg #[.int .u64 x, .int .u64 y]] w (ListP x y w) := by
  have B1 := Lib.hid (bl_al (Below.refl w.heap.size w) (.cells #[.int .u64 x, .int .u64 y] 24))
  have HA := Lib.hid (fun W => all_any x y W)
  have HS : Hid (∀ X : World, Below w.heap.size w X → Calls Tryd.prog 26 #[.func (.func 24) #[] #[.pointer (some ⟨X.heap.size, 0, none⟩)]] (X.alloc (.cells #[.int .u64 x, .int .u64 y] 24)) (ListP x y w)) := fun X hb => by
    have hq := new_two X x y
    obtain ⟨c0, c1⟩ := two_keep (Below.refl _ _) hq
    have hb2 := bl_al hb (.cells #[.int .u64 x, .int .u64 y] 24)
    exact (collect_any X.heap.size x y hx hy _ (hT.keep hb2) (by simp) c0 c1).mono fun e w' h => listP_up h hb2
  clear hT
  go_enter Tryd.func15, Tryd.ntmps15
  go_wp2_with fail
  refine (HA.out _).mono ?_; rintro e w1 ⟨rfl, rfl⟩
  go_wp2_with fail
  have hs := HS.out _ B1.out
  rw [World.size_alloc] at hs
  refine hs.mono ?_; rintro e w1 hP
  clear hs
  obtain ⟨v, he, h1, h2, h3⟩ := hP
  subst he
  have HP : Hid (ListP x y w (.returned v) w1) := ⟨v, rfl, h1, h2, h3⟩
  clear h1 h2 h3
  go_wp2
  go_ret
  exact HP.out
theorem v_of1 : lo (ofS 0 [3, 200, 1]) = 10 ∧ hi (ofS 0 [3, 200, 1]) = 0 := by decide +kernel
theorem v_of2 : lo (ofS 0 [5, 9]) = 544 ∧ hi (ofS 0 [5, 9]) = 0 := by decide +kernel
theorem v_both : both 10 0 = [1, 3] := by decide +kernel
theorem v_full : (nums (mem (lowv (clamp 70)) (lowv (clamp 70 - 64)))).length = 70 := by decide +kernel
theorem v_next : fst (lst (mem 544 0) (5 + 1) (128 - (5 + 1))) = 9 := by decide +kernel
theorem ints_lit (W : World) (g : Nat) (l : List Int) (cs : Array Value) (h : W.heap[g]? = some (.cells cs 3 (0, 0))) (hc : cs = (l.map (Value.int .i64)).toArray) : Ints W (some ⟨g, 0, none⟩) l := fun j hj => by
  refine ⟨g, 0, rfl, lt_hp h, ?_⟩
  subst hc
  simp [World.cell?, h, List.getElem?_eq_getElem hj]
theorem new_blk (X : World) (cs : Array Value) : (X.alloc (.cells cs 3)).heap[X.heap.size]? = some (.cells cs 3 (0, 0)) := by
  show (X.heap.push (Obj.cells cs 3))[X.heap.size]? = some (Obj.cells cs 3)
  simp
/-- the list that the witness reads -/
theorem wit_list {w : World} {e : Ending} {W' : World} (h : ListP 10 0 w e W') : ∃ g cap, e = .returned (.slice (some ⟨g, 0, none⟩) 2 cap) ∧ W'.cell? ⟨g, 0, none⟩ = some (.int .i64 1) ∧ W'.cell? ⟨g, 1, none⟩ = some (.int .i64 3) ∧ Below w.heap.size w W' := by
  obtain ⟨v, h1, h2, h3, h4⟩ := h
  rw [v_both] at h2 h3
  rcases h2.2 with ⟨hv, _⟩ | ⟨g, cap, cur, hv, hg, hh, r⟩
  · have := h3.1 hv; cases this
  · subst hv
    refine ⟨g, cap, h1, ?_, ?_, h4⟩
    · have := h2.cellAt 0 (by decide); simpa using this
    · have := h2.cellAt 1 (by decide); simpa using this
set_option maxRecDepth 100000 in
set_option maxHeartbeats 2000000 in
theorem sets_any (w : World) (hT : T64 w) : Calls Tryd.prog 7 #[] w fun e w' => e = .returned (.bool true) ∧ Below w.heap.size w w' := by
  have HT := Lib.hid (fun (X : World) (hb : Below w.heap.size w X) => hT.keep hb)
  have HO1 : Hid (∀ X : World, Calls Tryd.prog 22 #[.slice (some ⟨X.heap.size, 0, none⟩) 3 3] (X.alloc (.cells #[.int .i64 3, .int .i64 200, .int .i64 1] 3)) fun e w' => e = .returned (.agg #[.int .u64 10, .int .u64 0]) ∧ Below (X.alloc (.cells #[.int .i64 3, .int .i64 200, .int .i64 1] 3)).heap.size (X.alloc (.cells #[.int .i64 3, .int .i64 200, .int .i64 1] 3)) w') := fun X => by
    have := of_any [3, 200, 1] (some ⟨X.heap.size, 0, none⟩) 3 _ (ints_lit _ X.heap.size [3, 200, 1] _ (new_blk X _) rfl) (by decide)
    rw [v_of1.1, v_of1.2] at this
    exact this
  have HO2 : Hid (∀ X : World, Calls Tryd.prog 22 #[.slice (some ⟨X.heap.size, 0, none⟩) 2 2] (X.alloc (.cells #[.int .i64 5, .int .i64 9] 3)) fun e w' => e = .returned (.agg #[.int .u64 544, .int .u64 0]) ∧ Below (X.alloc (.cells #[.int .i64 5, .int .i64 9] 3)).heap.size (X.alloc (.cells #[.int .i64 5, .int .i64 9] 3)) w') := fun X => by
    have := of_any [5, 9] (some ⟨X.heap.size, 0, none⟩) 2 _ (ints_lit _ X.heap.size [5, 9] _ (new_blk X _) rfl) (by decide)
    rw [v_of2.1, v_of2.2] at this
    exact this
  have HL : Hid (∀ X : World, Below w.heap.size w X → Calls Tryd.prog 15 #[.agg #[.int .u64 10, .int .u64 0]] X fun e W' => ∃ g cap, e = .returned (.slice (some ⟨g, 0, none⟩) 2 cap) ∧ W'.cell? ⟨g, 0, none⟩ = some (.int .i64 1) ∧ W'.cell? ⟨g, 1, none⟩ = some (.int .i64 3) ∧ Below X.heap.size X W') := fun X hb =>
    (list_any 10 0 (by decide) (by decide) X (hT.keep hb)).mono fun e w' h => wit_list h
  have HF : Hid (∀ X : World, Calls Tryd.prog 23 #[.int .i64 70] X fun e w' => e = .returned (.agg #[.int .u64 (lowv (clamp 70)), .int .u64 (lowv (clamp 70 - 64))]) ∧ Below X.heap.size X w') := fun X => full_all 70 X
  have HC : Hid (∀ X : World, Calls Tryd.prog 21 #[.agg #[.int .u64 (lowv (clamp 70)), .int .u64 (lowv (clamp 70 - 64))]] X fun e w' => e = .returned (.int .i64 70) ∧ Below X.heap.size X w') := fun X => by
    have := count_any (lowv (clamp 70)) (lowv (clamp 70 - 64)) (lowv_lt _) (lowv_lt _) X
    rw [v_full] at this
    exact this
  have HN : Hid (∀ X : World, Below w.heap.size w X → Calls Tryd.prog 17 #[.agg #[.int .u64 544, .int .u64 0], .int .i64 5] X fun e w' => e = .returned (.int .i64 9) ∧ Below X.heap.size X w') := fun X hb => by
    have := next_any 544 0 (by decide) (by decide) 5 (by decide) X (hT.keep hb)
    rw [v_next] at this
    exact this
  have HB0 := Lib.hid (fun X (hb : Below w.heap.size w X) (o : Obj) => bl_al hb o)
  clear hT
  generalize lowv (clamp 70) = f0 at *
  generalize lowv (clamp 70 - 64) = f1 at *
  go_enter Tryd.func7, Tryd.ntmps7
  go_wp2_with fail
  refine (HO1.out w).mono ?_; rintro e w1 ⟨rfl, b1⟩
  have B1 := Lib.hid ((HB0.out w (Below.refl _ _) _).trans (b1.mono (HB0.out w (Below.refl _ _) _).size))
  clear b1 HO1
  go_wp2_with fail
  refine (HL.out w1 B1.out).mono ?_; rintro e w2 ⟨g, cap, rfl, c0, c1, b2⟩
  have B2 := Lib.hid (B1.out.trans (b2.mono B1.out.size))
  clear b2 HL
  go_wp2_with fail
  refine (HF.out w2).mono ?_; rintro e w3 ⟨rfl, b3⟩
  have B3 := Lib.hid (B2.out.trans (b3.mono B2.out.size))
  clear b3 HF
  go_wp2_with fail
  refine (HC.out w3).mono ?_; rintro e w4 ⟨rfl, b4⟩
  have B4 := Lib.hid (B3.out.trans (b4.mono B3.out.size))
  clear b4 HC
  go_wp2_with fail
  refine (HO2.out w4).mono ?_; rintro e w5 ⟨rfl, b5⟩
  have B5 := Lib.hid ((HB0.out w4 B4.out _).trans (b5.mono (HB0.out w4 B4.out _).size))
  clear b5 HO2
  go_wp2_with fail
  refine (HN.out w5 B5.out).mono ?_; rintro e w6 ⟨rfl, b6⟩
  have B6 := Lib.hid (B5.out.trans (b6.mono B5.out.size))
  clear b6 HN
  go_wp2
  go_ret
  exact ⟨rfl, B6.out⟩
end Go.Proofs.YtnenpgndghdheaaDoor

/-
  What do answers, kind by kind.
-/
import Derived.Test.YtdeggnefbkcegaaOpsB
import Derived.Test.YtdeggnefbkcegaaOpsC
namespace Go.Proofs.Ytdeggnefbkcegaa
open Go.RowKit Go.MuLone
set_option linter.unusedVariables false
set_option maxHeartbeats 2000000 in
theorem do_get (g b : Nat) (l : List Int) (s k c o n : Int) (d : Bool) (i x : Int) (ix : Nat) (hi : i = ix) (hx : ix < l.length) (hn : nth l ix = x) (s0 : 0 ≤ s) (s1 : s ≤ 1000000) (wh a bb : Int)  (w : World) (h : MB 0 g b l s k c o n d w) :
    Calls Try.prog 18 #[.pointer (some ⟨g, 0, none⟩), .agg #[.int .i64 wh, .int .i64 i, .int .i64 a, .int .i64 bb], .int .i64 1] w (Did (.tuple #[.int .i64 x, .bool false, .int .i64 0]) g b (l.set ix x) (s + 1) 1 i x x true w) := by
  have b1 := bl_al (Below.refl _ w) (.cells #[.int .i64 wh, .int .i64 i, .int .i64 a, .int .i64 bb] 48 (0, 0))
  have H := Lib.hid (get_ok g b l s k c o n d i x ix hi hx hn s0 s1 (w.alloc (.cells #[.int .i64 wh, .int .i64 i, .int .i64 a, .int .i64 bb] 48)) (h.keep b1))
  have C := Lib.hid (Ch.of (g := g) (b := b) b1)
  clear h b1 hi hn s0 s1
  go_enter Try.func18, Try.ntmps18
  go_wp2_with fail
  refine H.out.mono ?_; rintro e w1 ⟨rfl, m1, c1⟩
  have F := Lib.hid (show Did (.tuple #[.int .i64 x, .bool false, .int .i64 0]) g b (l.set ix x) (s + 1) 1 i x x true w (.returned (.tuple #[.int .i64 x, .bool false, .int .i64 0])) w1 from ⟨rfl, m1, C.out.trans c1⟩)
  clear m1 c1 H C
  go_wp2
  go_ret3
  exact F.out
set_option maxHeartbeats 2000000 in
theorem do_set (g b : Nat) (l : List Int) (s k c o n : Int) (d : Bool) (i x : Int) (ix : Nat) (hi : i = ix) (hx : ix < l.length) (hn : nth l ix = x) (s0 : 0 ≤ s) (s1 : s ≤ 1000000) (wh a bb : Int)  (w : World) (h : MB 0 g b l s k c o n d w) :
    Calls Try.prog 18 #[.pointer (some ⟨g, 0, none⟩), .agg #[.int .i64 wh, .int .i64 i, .int .i64 a, .int .i64 bb], .int .i64 2] w (Did (.tuple #[.int .i64 0, .bool false, .int .i64 0]) g b (l.set ix a) (s + 1) 2 i x a true w) := by
  have b1 := bl_al (Below.refl _ w) (.cells #[.int .i64 wh, .int .i64 i, .int .i64 a, .int .i64 bb] 48 (0, 0))
  have H := Lib.hid (set_ok g b l s k c o n d i x a ix hi hx hn s0 s1 (w.alloc (.cells #[.int .i64 wh, .int .i64 i, .int .i64 a, .int .i64 bb] 48)) (h.keep b1))
  have C := Lib.hid (Ch.of (g := g) (b := b) b1)
  clear h b1 hi hn s0 s1
  go_enter Try.func18, Try.ntmps18
  go_wp2_with fail
  refine H.out.mono ?_; rintro e w1 ⟨rfl, m1, c1⟩
  have F := Lib.hid (show Did (.tuple #[.int .i64 0, .bool false, .int .i64 0]) g b (l.set ix a) (s + 1) 2 i x a true w (.returned (.tuple #[.int .i64 0, .bool false, .int .i64 0])) w1 from ⟨rfl, m1, C.out.trans c1⟩)
  clear m1 c1 H C
  go_wp2
  go_ret3
  exact F.out
set_option maxHeartbeats 2000000 in
theorem do_hit (g b : Nat) (l : List Int) (s k c o n : Int) (d : Bool) (i x : Int) (ix : Nat) (hi : i = ix) (hx : ix < l.length) (hn : nth l ix = x) (s0 : 0 ≤ s) (s1 : s ≤ 1000000) (wh a bb : Int) (he : x = a) (w : World) (h : MB 0 g b l s k c o n d w) :
    Calls Try.prog 18 #[.pointer (some ⟨g, 0, none⟩), .agg #[.int .i64 wh, .int .i64 i, .int .i64 a, .int .i64 bb], .int .i64 3] w (Did (.tuple #[.int .i64 0, .bool true, .int .i64 0]) g b (l.set ix bb) (s + 1) 3 i x bb true w) := by
  have b1 := bl_al (Below.refl _ w) (.cells #[.int .i64 wh, .int .i64 i, .int .i64 a, .int .i64 bb] 48 (0, 0))
  have H := Lib.hid (cas_ok g b l s k c o n d i x a bb bb true ix hi hx hn (.inl ⟨he, rfl, rfl⟩) s0 s1 (w.alloc (.cells #[.int .i64 wh, .int .i64 i, .int .i64 a, .int .i64 bb] 48)) (h.keep b1))
  have C := Lib.hid (Ch.of (g := g) (b := b) b1)
  clear h b1 hi hn s0 s1 he
  go_enter Try.func18, Try.ntmps18
  go_wp2_with fail
  refine H.out.mono ?_; rintro e w1 ⟨rfl, m1, c1⟩
  have F := Lib.hid (show Did (.tuple #[.int .i64 0, .bool true, .int .i64 0]) g b (l.set ix bb) (s + 1) 3 i x bb true w (.returned (.tuple #[.int .i64 0, .bool true, .int .i64 0])) w1 from ⟨rfl, m1, C.out.trans c1⟩)
  clear m1 c1 H C
  go_wp2
  go_ret3
  exact F.out
set_option maxHeartbeats 2000000 in
theorem do_no (g b : Nat) (l : List Int) (s k c o n : Int) (d : Bool) (i x : Int) (ix : Nat) (hi : i = ix) (hx : ix < l.length) (hn : nth l ix = x) (s0 : 0 ≤ s) (s1 : s ≤ 1000000) (wh a bb : Int) (he : x ≠ a) (w : World) (h : MB 0 g b l s k c o n d w) :
    Calls Try.prog 18 #[.pointer (some ⟨g, 0, none⟩), .agg #[.int .i64 wh, .int .i64 i, .int .i64 a, .int .i64 bb], .int .i64 3] w (Did (.tuple #[.int .i64 0, .bool false, .int .i64 0]) g b (l.set ix x) (s + 1) 3 i x x false w) := by
  have b1 := bl_al (Below.refl _ w) (.cells #[.int .i64 wh, .int .i64 i, .int .i64 a, .int .i64 bb] 48 (0, 0))
  have H := Lib.hid (cas_ok g b l s k c o n d i x a bb x false ix hi hx hn (.inr ⟨he, rfl, rfl⟩) s0 s1 (w.alloc (.cells #[.int .i64 wh, .int .i64 i, .int .i64 a, .int .i64 bb] 48)) (h.keep b1))
  have C := Lib.hid (Ch.of (g := g) (b := b) b1)
  clear h b1 hi hn s0 s1 he
  go_enter Try.func18, Try.ntmps18
  go_wp2_with fail
  refine H.out.mono ?_; rintro e w1 ⟨rfl, m1, c1⟩
  have F := Lib.hid (show Did (.tuple #[.int .i64 0, .bool false, .int .i64 0]) g b (l.set ix x) (s + 1) 3 i x x false w (.returned (.tuple #[.int .i64 0, .bool false, .int .i64 0])) w1 from ⟨rfl, m1, C.out.trans c1⟩)
  clear m1 c1 H C
  go_wp2
  go_ret3
  exact F.out
set_option maxHeartbeats 2000000 in
theorem do_bump (g b : Nat) (l : List Int) (s k c o n : Int) (d : Bool) (i x : Int) (ix : Nat) (hi : i = ix) (hx : ix < l.length) (hn : nth l ix = x) (s0 : 0 ≤ s) (s1 : s ≤ 1000000) (wh a bb : Int) (hX : I64 x) (hY : I64 a) (hXY : I64 (x + a)) (w : World) (h : MB 0 g b l s k c o n d w) :
    Calls Try.prog 18 #[.pointer (some ⟨g, 0, none⟩), .agg #[.int .i64 wh, .int .i64 i, .int .i64 a, .int .i64 bb], .int .i64 4] w (Did (.tuple #[.int .i64 x, .bool false, .int .i64 0]) g b (l.set ix (x + a)) (s + 1) 4 i x (x + a) true w) := by
  have b1 := bl_al (Below.refl _ w) (.cells #[.int .i64 wh, .int .i64 i, .int .i64 a, .int .i64 bb] 48 (0, 0))
  have H := Lib.hid (bump_ok g b l s k c o n d i x a hX hY hXY ix hi hx hn s0 s1 (w.alloc (.cells #[.int .i64 wh, .int .i64 i, .int .i64 a, .int .i64 bb] 48)) (h.keep b1))
  have C := Lib.hid (Ch.of (g := g) (b := b) b1)
  clear h b1 hi hn s0 s1 hX hY hXY
  go_enter Try.func18, Try.ntmps18
  go_wp2_with fail
  refine H.out.mono ?_; rintro e w1 ⟨rfl, m1, c1⟩
  have F := Lib.hid (show Did (.tuple #[.int .i64 x, .bool false, .int .i64 0]) g b (l.set ix (x + a)) (s + 1) 4 i x (x + a) true w (.returned (.tuple #[.int .i64 x, .bool false, .int .i64 0])) w1 from ⟨rfl, m1, C.out.trans c1⟩)
  clear m1 c1 H C
  go_wp2
  go_ret3
  exact F.out
set_option maxHeartbeats 2000000 in
theorem do_over (g b : Nat) (l : List Int) (s k c o n : Int) (d : Bool) (i x : Int) (ix : Nat) (hi : i = ix) (hx : ix < l.length) (hn : nth l ix = x) (s0 : 0 ≤ s) (s1 : s ≤ 1000000) (wh a bb : Int) (hX : I64 x) (hY : I64 a) (hXY : ¬ I64 (x + a)) (w : World) (h : MB 0 g b l s k c o n d w) :
    Calls Try.prog 18 #[.pointer (some ⟨g, 0, none⟩), .agg #[.int .i64 wh, .int .i64 i, .int .i64 a, .int .i64 bb], .int .i64 4] w (Did (.tuple #[.int .i64 0, .bool false, .int .i64 12]) g b l s k c o n d w) := by
  have b1 := bl_al (Below.refl _ w) (.cells #[.int .i64 wh, .int .i64 i, .int .i64 a, .int .i64 bb] 48 (0, 0))
  have H := Lib.hid (bump_over g b l s k c o n d i x a hX hY hXY ix hi hx hn (w.alloc (.cells #[.int .i64 wh, .int .i64 i, .int .i64 a, .int .i64 bb] 48)) (h.keep b1))
  have C := Lib.hid (Ch.of (g := g) (b := b) b1)
  clear h b1 hi hn s0 s1 hX hY hXY
  go_enter Try.func18, Try.ntmps18
  go_wp2_with fail
  refine H.out.mono ?_; rintro e w1 ⟨rfl, m1, c1⟩
  have F := Lib.hid (show Did (.tuple #[.int .i64 0, .bool false, .int .i64 12]) g b l s k c o n d w (.returned (.tuple #[.int .i64 0, .bool false, .int .i64 12])) w1 from ⟨rfl, m1, C.out.trans c1⟩)
  clear m1 c1 H C
  go_wp2
  go_ret3
  exact F.out
set_option maxHeartbeats 2000000 in
theorem do_miss1 (g b : Nat) (l : List Int) (s k c o n : Int) (d : Bool) (i : Int) (hi : i < 0 ∨ (l.length : Int) ≤ i) (wh a bb : Int)  (w : World) (h : MB 0 g b l s k c o n d w) :
    Calls Try.prog 18 #[.pointer (some ⟨g, 0, none⟩), .agg #[.int .i64 wh, .int .i64 i, .int .i64 a, .int .i64 bb], .int .i64 1] w (Did (.tuple #[.int .i64 0, .bool false, .int .i64 11]) g b l s k c o n d w) := by
  have b1 := bl_al (Below.refl _ w) (.cells #[.int .i64 wh, .int .i64 i, .int .i64 a, .int .i64 bb] 48 (0, 0))
  have H := Lib.hid (get_miss g b l s k c o n d i hi (w.alloc (.cells #[.int .i64 wh, .int .i64 i, .int .i64 a, .int .i64 bb] 48)) (h.keep b1))
  have C := Lib.hid (Ch.of (g := g) (b := b) b1)
  clear h b1 hi
  go_enter Try.func18, Try.ntmps18
  go_wp2_with fail
  refine H.out.mono ?_; rintro e w1 ⟨rfl, m1, c1⟩
  have F := Lib.hid (show Did (.tuple #[.int .i64 0, .bool false, .int .i64 11]) g b l s k c o n d w (.returned (.tuple #[.int .i64 0, .bool false, .int .i64 11])) w1 from ⟨rfl, m1, C.out.trans c1⟩)
  clear m1 c1 H C
  go_wp2
  go_ret3
  exact F.out
set_option maxHeartbeats 2000000 in
theorem do_miss2 (g b : Nat) (l : List Int) (s k c o n : Int) (d : Bool) (i : Int) (hi : i < 0 ∨ (l.length : Int) ≤ i) (wh a bb : Int)  (w : World) (h : MB 0 g b l s k c o n d w) :
    Calls Try.prog 18 #[.pointer (some ⟨g, 0, none⟩), .agg #[.int .i64 wh, .int .i64 i, .int .i64 a, .int .i64 bb], .int .i64 2] w (Did (.tuple #[.int .i64 0, .bool false, .int .i64 11]) g b l s k c o n d w) := by
  have b1 := bl_al (Below.refl _ w) (.cells #[.int .i64 wh, .int .i64 i, .int .i64 a, .int .i64 bb] 48 (0, 0))
  have H := Lib.hid (set_miss g b l s k c o n d i a hi (w.alloc (.cells #[.int .i64 wh, .int .i64 i, .int .i64 a, .int .i64 bb] 48)) (h.keep b1))
  have C := Lib.hid (Ch.of (g := g) (b := b) b1)
  clear h b1 hi
  go_enter Try.func18, Try.ntmps18
  go_wp2_with fail
  refine H.out.mono ?_; rintro e w1 ⟨rfl, m1, c1⟩
  have F := Lib.hid (show Did (.tuple #[.int .i64 0, .bool false, .int .i64 11]) g b l s k c o n d w (.returned (.tuple #[.int .i64 0, .bool false, .int .i64 11])) w1 from ⟨rfl, m1, C.out.trans c1⟩)
  clear m1 c1 H C
  go_wp2
  go_ret3
  exact F.out
set_option maxHeartbeats 2000000 in
theorem do_miss3 (g b : Nat) (l : List Int) (s k c o n : Int) (d : Bool) (i : Int) (hi : i < 0 ∨ (l.length : Int) ≤ i) (wh a bb : Int)  (w : World) (h : MB 0 g b l s k c o n d w) :
    Calls Try.prog 18 #[.pointer (some ⟨g, 0, none⟩), .agg #[.int .i64 wh, .int .i64 i, .int .i64 a, .int .i64 bb], .int .i64 3] w (Did (.tuple #[.int .i64 0, .bool false, .int .i64 11]) g b l s k c o n d w) := by
  have b1 := bl_al (Below.refl _ w) (.cells #[.int .i64 wh, .int .i64 i, .int .i64 a, .int .i64 bb] 48 (0, 0))
  have H := Lib.hid (casx_miss g b l s k c o n d i a bb hi (w.alloc (.cells #[.int .i64 wh, .int .i64 i, .int .i64 a, .int .i64 bb] 48)) (h.keep b1))
  have C := Lib.hid (Ch.of (g := g) (b := b) b1)
  clear h b1 hi
  go_enter Try.func18, Try.ntmps18
  go_wp2_with fail
  refine H.out.mono ?_; rintro e w1 ⟨rfl, m1, c1⟩
  have F := Lib.hid (show Did (.tuple #[.int .i64 0, .bool false, .int .i64 11]) g b l s k c o n d w (.returned (.tuple #[.int .i64 0, .bool false, .int .i64 11])) w1 from ⟨rfl, m1, C.out.trans c1⟩)
  clear m1 c1 H C
  go_wp2
  go_ret3
  exact F.out
set_option maxHeartbeats 2000000 in
theorem do_miss4 (g b : Nat) (l : List Int) (s k c o n : Int) (d : Bool) (i : Int) (hi : i < 0 ∨ (l.length : Int) ≤ i) (wh a bb : Int)  (w : World) (h : MB 0 g b l s k c o n d w) :
    Calls Try.prog 18 #[.pointer (some ⟨g, 0, none⟩), .agg #[.int .i64 wh, .int .i64 i, .int .i64 a, .int .i64 bb], .int .i64 4] w (Did (.tuple #[.int .i64 0, .bool false, .int .i64 11]) g b l s k c o n d w) := by
  have b1 := bl_al (Below.refl _ w) (.cells #[.int .i64 wh, .int .i64 i, .int .i64 a, .int .i64 bb] 48 (0, 0))
  have H := Lib.hid (bump_miss g b l s k c o n d i a hi (w.alloc (.cells #[.int .i64 wh, .int .i64 i, .int .i64 a, .int .i64 bb] 48)) (h.keep b1))
  have C := Lib.hid (Ch.of (g := g) (b := b) b1)
  clear h b1 hi
  go_enter Try.func18, Try.ntmps18
  go_wp2_with fail
  refine H.out.mono ?_; rintro e w1 ⟨rfl, m1, c1⟩
  have F := Lib.hid (show Did (.tuple #[.int .i64 0, .bool false, .int .i64 11]) g b l s k c o n d w (.returned (.tuple #[.int .i64 0, .bool false, .int .i64 11])) w1 from ⟨rfl, m1, C.out.trans c1⟩)
  clear m1 c1 H C
  go_wp2
  go_ret3
  exact F.out
end Go.Proofs.Ytdeggnefbkcegaa

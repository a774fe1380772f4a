/-
  What the reference's Do answers, kind by kind.
-/
import Derived.Test.YtdeggnefbkcegaaRef
namespace Go.Proofs.Ytdeggnefbkcegaa
open Go.RowKit
set_option linter.unusedVariables false
set_option maxRecDepth 100000 in
set_option maxHeartbeats 4000000 in
theorem rdo_get (g b : Nat) (l : List Int) (s k c o n : Int) (d : Bool) (i x : Int) (ix : Nat) (hi : i = ix) (hx : ix < l.length) (hn : nth l ix = x) (s0 : 0 ≤ s) (s1 : s ≤ 1000000) (a bb : Int)  (w : World) (h : RB g b l s k c o n d w) :
    Calls Try.prog 19 #[.pointer (some ⟨g, 0, none⟩), .int .i64 1, .int .i64 i, .int .i64 a, .int .i64 bb] w (RDid (.tuple #[.int .i64 x, .bool false, .int .i64 0]) g b (l.set ix (x)) (s + 1) 1 i x (x) true w) := by
  have hb0 : Below w.heap.size w w := Below.refl _ w
  have H := Lib.hid (fun X (hX : Below w.heap.size w X) => rstep g b l s k c o n d 1 i x (x) true ix hi hx hn s0 s1 X (h.keep hX))
  obtain ⟨c0, c1, c2, c3, c4, c5, c6, fg, cb, fb⟩ := h.rc
  have cx := cb ix hx
  rw [hn] at cx
  have i0 : ¬ i < 0 := by omega
  have i1 : decide ((l.length : Int) ≤ i) = false := decide_eq_false (by omega)
  have i2 : decide (l.length ≤ ix) = false := decide_eq_false (by omega)
  have i3 : ix < l.length := hx
  clear cb h hn c1 c2 c3 c4 c5 c6 fg fb
  subst hi
  have HB := Lib.hid hb0
  clear hb0
  generalize l.set ix (x) = l2 at *
  generalize l.length = m at *
  go_enter Try.func19, Try.ntmps19
  go_wp2_with fail
  refine (H.out _ HB.out).mono ?_; rintro e w9 ⟨rfl, m1, q1⟩
  have F := Lib.hid (show RDid (.tuple #[.int .i64 x, .bool false, .int .i64 0]) g b l2 (s + 1) 1 ix x (x) true w (.returned (.tuple #[.int .i64 x, .bool false, .int .i64 0])) w9 from ⟨rfl, m1, (Ch.of HB.out).trans q1⟩)
  clear m1 q1 H
  go_wp2
  go_ret3
  exact F.out
set_option maxRecDepth 100000 in
set_option maxHeartbeats 4000000 in
theorem rdo_set (g b : Nat) (l : List Int) (s k c o n : Int) (d : Bool) (i x : Int) (ix : Nat) (hi : i = ix) (hx : ix < l.length) (hn : nth l ix = x) (s0 : 0 ≤ s) (s1 : s ≤ 1000000) (a bb : Int)  (w : World) (h : RB g b l s k c o n d w) :
    Calls Try.prog 19 #[.pointer (some ⟨g, 0, none⟩), .int .i64 2, .int .i64 i, .int .i64 a, .int .i64 bb] w (RDid (.tuple #[.int .i64 0, .bool false, .int .i64 0]) g b (l.set ix (a)) (s + 1) 2 i x (a) true w) := by
  have hb0 : Below w.heap.size w w := Below.refl _ w
  have H := Lib.hid (fun X (hX : Below w.heap.size w X) => rstep g b l s k c o n d 2 i x (a) true ix hi hx hn s0 s1 X (h.keep hX))
  obtain ⟨c0, c1, c2, c3, c4, c5, c6, fg, cb, fb⟩ := h.rc
  have cx := cb ix hx
  rw [hn] at cx
  have i0 : ¬ i < 0 := by omega
  have i1 : decide ((l.length : Int) ≤ i) = false := decide_eq_false (by omega)
  have i2 : decide (l.length ≤ ix) = false := decide_eq_false (by omega)
  have i3 : ix < l.length := hx
  clear cb h hn c1 c2 c3 c4 c5 c6 fg fb
  subst hi
  have HB := Lib.hid hb0
  clear hb0
  generalize l.set ix (a) = l2 at *
  generalize l.length = m at *
  go_enter Try.func19, Try.ntmps19
  go_wp2_with fail
  refine (H.out _ HB.out).mono ?_; rintro e w9 ⟨rfl, m1, q1⟩
  have F := Lib.hid (show RDid (.tuple #[.int .i64 0, .bool false, .int .i64 0]) g b l2 (s + 1) 2 ix x (a) true w (.returned (.tuple #[.int .i64 0, .bool false, .int .i64 0])) w9 from ⟨rfl, m1, (Ch.of HB.out).trans q1⟩)
  clear m1 q1 H
  go_wp2
  go_ret3
  exact F.out
set_option maxRecDepth 100000 in
set_option maxHeartbeats 4000000 in
theorem rdo_hit (g b : Nat) (l : List Int) (s k c o n : Int) (d : Bool) (i x : Int) (ix : Nat) (hi : i = ix) (hx : ix < l.length) (hn : nth l ix = x) (s0 : 0 ≤ s) (s1 : s ≤ 1000000) (a bb : Int) (he : x = a) (w : World) (h : RB g b l s k c o n d w) :
    Calls Try.prog 19 #[.pointer (some ⟨g, 0, none⟩), .int .i64 3, .int .i64 i, .int .i64 a, .int .i64 bb] w (RDid (.tuple #[.int .i64 0, .bool true, .int .i64 0]) g b (l.set ix (bb)) (s + 1) 3 i x (bb) true w) := by
  have hb0 : Below w.heap.size w w := Below.refl _ w
  have H := Lib.hid (fun X (hX : Below w.heap.size w X) => rstep g b l s k c o n d 3 i x (bb) true ix hi hx hn s0 s1 X (h.keep hX))
  obtain ⟨c0, c1, c2, c3, c4, c5, c6, fg, cb, fb⟩ := h.rc
  have cx := cb ix hx
  rw [hn] at cx
  have i0 : ¬ i < 0 := by omega
  have i1 : decide ((l.length : Int) ≤ i) = false := decide_eq_false (by omega)
  have i2 : decide (l.length ≤ ix) = false := decide_eq_false (by omega)
  have i3 : ix < l.length := hx
  clear cb h hn c1 c2 c3 c4 c5 c6 fg fb
  subst hi
  have HB := Lib.hid hb0
  clear hb0
  subst he
  have t1 : (x == x) = true := by simp
  generalize l.set ix (bb) = l2 at *
  generalize l.length = m at *
  go_enter Try.func19, Try.ntmps19
  go_wp2_with fail
  refine (H.out _ HB.out).mono ?_; rintro e w9 ⟨rfl, m1, q1⟩
  have F := Lib.hid (show RDid (.tuple #[.int .i64 0, .bool true, .int .i64 0]) g b l2 (s + 1) 3 ix x (bb) true w (.returned (.tuple #[.int .i64 0, .bool true, .int .i64 0])) w9 from ⟨rfl, m1, (Ch.of HB.out).trans q1⟩)
  clear m1 q1 H
  go_wp2
  go_ret3
  exact F.out
set_option maxRecDepth 100000 in
set_option maxHeartbeats 4000000 in
theorem rdo_no (g b : Nat) (l : List Int) (s k c o n : Int) (d : Bool) (i x : Int) (ix : Nat) (hi : i = ix) (hx : ix < l.length) (hn : nth l ix = x) (s0 : 0 ≤ s) (s1 : s ≤ 1000000) (a bb : Int) (he : x ≠ a) (w : World) (h : RB g b l s k c o n d w) :
    Calls Try.prog 19 #[.pointer (some ⟨g, 0, none⟩), .int .i64 3, .int .i64 i, .int .i64 a, .int .i64 bb] w (RDid (.tuple #[.int .i64 0, .bool false, .int .i64 0]) g b (l.set ix (x)) (s + 1) 3 i x (x) false w) := by
  have hb0 : Below w.heap.size w w := Below.refl _ w
  have H := Lib.hid (fun X (hX : Below w.heap.size w X) => rstep g b l s k c o n d 3 i x (x) false ix hi hx hn s0 s1 X (h.keep hX))
  obtain ⟨c0, c1, c2, c3, c4, c5, c6, fg, cb, fb⟩ := h.rc
  have cx := cb ix hx
  rw [hn] at cx
  have i0 : ¬ i < 0 := by omega
  have i1 : decide ((l.length : Int) ≤ i) = false := decide_eq_false (by omega)
  have i2 : decide (l.length ≤ ix) = false := decide_eq_false (by omega)
  have i3 : ix < l.length := hx
  clear cb h hn c1 c2 c3 c4 c5 c6 fg fb
  subst hi
  have HB := Lib.hid hb0
  clear hb0
  have t1 : (x == a) = false := by simpa using he
  clear he
  generalize l.set ix (x) = l2 at *
  generalize l.length = m at *
  go_enter Try.func19, Try.ntmps19
  go_wp2_with fail
  refine (H.out _ HB.out).mono ?_; rintro e w9 ⟨rfl, m1, q1⟩
  have F := Lib.hid (show RDid (.tuple #[.int .i64 0, .bool false, .int .i64 0]) g b l2 (s + 1) 3 ix x (x) false w (.returned (.tuple #[.int .i64 0, .bool false, .int .i64 0])) w9 from ⟨rfl, m1, (Ch.of HB.out).trans q1⟩)
  clear m1 q1 H
  go_wp2
  go_ret3
  exact F.out
theorem nat_lt (x : Int) (h : I64 x) : x.natAbs ≤ 9223372036854775808 := by obtain ⟨h1, h2⟩ := h; omega
theorem sv_of (x : Int) : ar.sv (decide (x < 0)) x.natAbs = x := by
  unfold ar.sv
  by_cases h : x < 0
  · rw [if_pos (by simpa using h)]; omega
  · rw [if_neg (by simpa using h)]; omega
theorem fit_yes (x : Int) (h : I64 x) : ar.fits x = true ∧ ar.fitv x = x := by
  have h1 : ar.fits x = true := by unfold ar.fits; exact decide_eq_true h
  exact ⟨h1, by unfold ar.fitv; rw [if_pos h1]⟩
theorem fit_no (x : Int) (h : ¬ I64 x) : ar.fits x = false ∧ ar.fitv x = 0 := by
  have h1 : ar.fits x = false := by unfold ar.fits; exact decide_eq_false h
  exact ⟨h1, by unfold ar.fitv; rw [h1]; rfl⟩
set_option maxRecDepth 100000 in
set_option maxHeartbeats 4000000 in
theorem rdo_bump (g b : Nat) (l : List Int) (s k c o n : Int) (d : Bool) (i x : Int) (ix : Nat) (hi : i = ix) (hx : ix < l.length) (hn : nth l ix = x) (s0 : 0 ≤ s) (s1 : s ≤ 1000000) (a bb : Int) (hX : I64 x) (hY : I64 a) (hXY : I64 (x + a)) (w : World) (h : RB g b l s k c o n d w) :
    Calls Try.prog 19 #[.pointer (some ⟨g, 0, none⟩), .int .i64 4, .int .i64 i, .int .i64 a, .int .i64 bb] w (RDid (.tuple #[.int .i64 x, .bool false, .int .i64 0]) g b (l.set ix (x + a)) (s + 1) 4 i x (x + a) true w) := by
  have hb0 : Below w.heap.size w w := Below.refl _ w
  have H := Lib.hid (fun X (hX : Below w.heap.size w X) => rstep g b l s k c o n d 4 i x (x + a) true ix hi hx hn s0 s1 X (h.keep hX))
  obtain ⟨c0, c1, c2, c3, c4, c5, c6, fg, cb, fb⟩ := h.rc
  have cx := cb ix hx
  rw [hn] at cx
  have i0 : ¬ i < 0 := by omega
  have i1 : decide ((l.length : Int) ≤ i) = false := decide_eq_false (by omega)
  have i2 : decide (l.length ≤ ix) = false := decide_eq_false (by omega)
  have i3 : ix < l.length := hx
  clear cb h hn c1 c2 c3 c4 c5 c6 fg fb
  subst hi
  have HB := Lib.hid hb0
  clear hb0
  obtain ⟨S1, hS1⟩ : ∃ v : Value, v = .agg #[.bool (decide (x < 0)), .int .i64 (ar.dg x.natAbs 0), .int .i64 (ar.dg x.natAbs 1), .int .i64 (ar.dg x.natAbs 2), .int .i64 (ar.dg x.natAbs 3), .int .i64 (ar.dg x.natAbs 4), .int .i64 (ar.dg x.natAbs 5), .int .i64 (ar.dg x.natAbs 6), .int .i64 (ar.dg x.natAbs 7), .int .i64 (ar.dg x.natAbs 8)] := ⟨_, rfl⟩
  obtain ⟨S2, hS2⟩ : ∃ v : Value, v = .agg #[.bool (decide (a < 0)), .int .i64 (ar.dg a.natAbs 0), .int .i64 (ar.dg a.natAbs 1), .int .i64 (ar.dg a.natAbs 2), .int .i64 (ar.dg a.natAbs 3), .int .i64 (ar.dg a.natAbs 4), .int .i64 (ar.dg a.natAbs 5), .int .i64 (ar.dg a.natAbs 6), .int .i64 (ar.dg a.natAbs 7), .int .i64 (ar.dg a.natAbs 8)] := ⟨_, rfl⟩
  obtain ⟨km, hkm⟩ : ∃ v, v = ar.addk (decide (x < 0)) (decide (a < 0)) x.natAbs a.natAbs := ⟨_, rfl⟩
  obtain ⟨kz, hkz⟩ : ∃ v, v = ar.addz (decide (x < 0)) (decide (a < 0)) x.natAbs a.natAbs := ⟨_, rfl⟩
  obtain ⟨S3, hS3⟩ : ∃ v : Value, v = .agg #[.bool km, .int .i64 (ar.dg kz 0), .int .i64 (ar.dg kz 1), .int .i64 (ar.dg kz 2), .int .i64 (ar.dg kz 3), .int .i64 (ar.dg kz 4), .int .i64 (ar.dg kz 5), .int .i64 (ar.dg kz 6), .int .i64 (ar.dg kz 7), .int .i64 (ar.dg kz 8)] := ⟨_, rfl⟩
  have bn1 := nat_lt x hX
  have bn2 := nat_lt a hY
  have Q1 : Hid (∀ X, Calls Try.prog 37 #[.int .i64 x] X fun e w' => e = .returned S1 ∧ Below X.heap.size X w') := fun X => by rw [hS1]; exact ar.num_any x hX.1 hX.2 X
  have Q2 : Hid (∀ X, Calls Try.prog 37 #[.int .i64 a] X fun e w' => e = .returned S2 ∧ Below X.heap.size X w') := fun X => by rw [hS2]; exact ar.num_any a hY.1 hY.2 X
  have Q3 : Hid (∀ X, Calls Try.prog 36 #[S1, S2] X fun e w' => e = .returned S3 ∧ Below X.heap.size X w') := fun X => by
    rw [hS1, hS2, hS3, hkm, hkz]; exact ar.add_any _ _ _ _ (by unfold ar.BB; omega) (by unfold ar.BB; omega) X
  have hsv : ar.sv km kz = x + a := by rw [hkm, hkz, ar.add_sv, sv_of, sv_of]
  have Q4 : Hid (∀ X, Calls Try.prog 35 #[S3] X fun e w' => e = .returned (.tuple #[.int .i64 (ar.fitv (x + a)), .bool (ar.fits (x + a))]) ∧ Below X.heap.size X w') := fun X => by
    rw [hS3, ← hsv]; exact ar.int_any km kz (by
      have := ar.addz_le (decide (x < 0)) (decide (a < 0)) x.natAbs a.natAbs
      rw [hkz]; unfold ar.BB; omega) X
  clear hS1 hS2 hS3 hkm hkz hsv bn1 bn2
  rw [(fit_yes _ hXY).1, (fit_yes _ hXY).2] at Q4
  clear hX hY hXY
  generalize l.set ix (x + a) = l2 at *
  generalize l.length = m at *
  go_enter Try.func19, Try.ntmps19
  go_wp2_with fail
  refine (Q1.out _).mono ?_; rintro e u1 ⟨rfl, hb⟩
  have HB := Lib.hid (bl_tr HB.out hb)
  clear hb
  go_wp2_with fail
  refine (Q2.out _).mono ?_; rintro e u2 ⟨rfl, hb⟩
  have HB := Lib.hid (bl_tr HB.out hb)
  clear hb
  go_wp2_with fail
  refine (Q3.out _).mono ?_; rintro e u3 ⟨rfl, hb⟩
  have HB := Lib.hid (bl_tr HB.out hb)
  clear hb
  go_wp2_with fail
  refine (Q4.out _).mono ?_; rintro e u4 ⟨rfl, hb⟩
  have HB := Lib.hid (bl_tr HB.out hb)
  clear hb Q1 Q2 Q3 Q4
  go_wp2_with fail
  refine (H.out _ HB.out).mono ?_; rintro e w9 ⟨rfl, m1, q1⟩
  have F := Lib.hid (show RDid (.tuple #[.int .i64 x, .bool false, .int .i64 0]) g b l2 (s + 1) 4 ix x (x + a) true w (.returned (.tuple #[.int .i64 x, .bool false, .int .i64 0])) w9 from ⟨rfl, m1, (Ch.of HB.out).trans q1⟩)
  clear m1 q1 H
  go_wp2
  go_ret3
  exact F.out
set_option maxRecDepth 100000 in
set_option maxHeartbeats 4000000 in
theorem rdo_over (g b : Nat) (l : List Int) (s k c o n : Int) (d : Bool) (i x : Int) (ix : Nat) (hi : i = ix) (hx : ix < l.length) (hn : nth l ix = x) (s0 : 0 ≤ s) (s1 : s ≤ 1000000) (a bb : Int) (hX : I64 x) (hY : I64 a) (hXY : ¬ I64 (x + a)) (w : World) (h : RB g b l s k c o n d w) :
    Calls Try.prog 19 #[.pointer (some ⟨g, 0, none⟩), .int .i64 4, .int .i64 i, .int .i64 a, .int .i64 bb] w (RDid (.tuple #[.int .i64 0, .bool false, .int .i64 12]) g b l s k c o n d w) := by
  have hb0 : Below w.heap.size w w := Below.refl _ w
  have HR := Lib.hid h
  have H := Lib.hid (fun X (hX : Below w.heap.size w X) => rstep g b l s k c o n d 4 i x (x) true ix hi hx hn s0 s1 X (h.keep hX))
  obtain ⟨c0, c1, c2, c3, c4, c5, c6, fg, cb, fb⟩ := h.rc
  have cx := cb ix hx
  rw [hn] at cx
  have i0 : ¬ i < 0 := by omega
  have i1 : decide ((l.length : Int) ≤ i) = false := decide_eq_false (by omega)
  have i2 : decide (l.length ≤ ix) = false := decide_eq_false (by omega)
  have i3 : ix < l.length := hx
  clear cb h hn c1 c2 c3 c4 c5 c6 fg fb
  subst hi
  have HB := Lib.hid hb0
  clear hb0
  obtain ⟨S1, hS1⟩ : ∃ v : Value, v = .agg #[.bool (decide (x < 0)), .int .i64 (ar.dg x.natAbs 0), .int .i64 (ar.dg x.natAbs 1), .int .i64 (ar.dg x.natAbs 2), .int .i64 (ar.dg x.natAbs 3), .int .i64 (ar.dg x.natAbs 4), .int .i64 (ar.dg x.natAbs 5), .int .i64 (ar.dg x.natAbs 6), .int .i64 (ar.dg x.natAbs 7), .int .i64 (ar.dg x.natAbs 8)] := ⟨_, rfl⟩
  obtain ⟨S2, hS2⟩ : ∃ v : Value, v = .agg #[.bool (decide (a < 0)), .int .i64 (ar.dg a.natAbs 0), .int .i64 (ar.dg a.natAbs 1), .int .i64 (ar.dg a.natAbs 2), .int .i64 (ar.dg a.natAbs 3), .int .i64 (ar.dg a.natAbs 4), .int .i64 (ar.dg a.natAbs 5), .int .i64 (ar.dg a.natAbs 6), .int .i64 (ar.dg a.natAbs 7), .int .i64 (ar.dg a.natAbs 8)] := ⟨_, rfl⟩
  obtain ⟨km, hkm⟩ : ∃ v, v = ar.addk (decide (x < 0)) (decide (a < 0)) x.natAbs a.natAbs := ⟨_, rfl⟩
  obtain ⟨kz, hkz⟩ : ∃ v, v = ar.addz (decide (x < 0)) (decide (a < 0)) x.natAbs a.natAbs := ⟨_, rfl⟩
  obtain ⟨S3, hS3⟩ : ∃ v : Value, v = .agg #[.bool km, .int .i64 (ar.dg kz 0), .int .i64 (ar.dg kz 1), .int .i64 (ar.dg kz 2), .int .i64 (ar.dg kz 3), .int .i64 (ar.dg kz 4), .int .i64 (ar.dg kz 5), .int .i64 (ar.dg kz 6), .int .i64 (ar.dg kz 7), .int .i64 (ar.dg kz 8)] := ⟨_, rfl⟩
  have bn1 := nat_lt x hX
  have bn2 := nat_lt a hY
  have Q1 : Hid (∀ X, Calls Try.prog 37 #[.int .i64 x] X fun e w' => e = .returned S1 ∧ Below X.heap.size X w') := fun X => by rw [hS1]; exact ar.num_any x hX.1 hX.2 X
  have Q2 : Hid (∀ X, Calls Try.prog 37 #[.int .i64 a] X fun e w' => e = .returned S2 ∧ Below X.heap.size X w') := fun X => by rw [hS2]; exact ar.num_any a hY.1 hY.2 X
  have Q3 : Hid (∀ X, Calls Try.prog 36 #[S1, S2] X fun e w' => e = .returned S3 ∧ Below X.heap.size X w') := fun X => by
    rw [hS1, hS2, hS3, hkm, hkz]; exact ar.add_any _ _ _ _ (by unfold ar.BB; omega) (by unfold ar.BB; omega) X
  have hsv : ar.sv km kz = x + a := by rw [hkm, hkz, ar.add_sv, sv_of, sv_of]
  have Q4 : Hid (∀ X, Calls Try.prog 35 #[S3] X fun e w' => e = .returned (.tuple #[.int .i64 (ar.fitv (x + a)), .bool (ar.fits (x + a))]) ∧ Below X.heap.size X w') := fun X => by
    rw [hS3, ← hsv]; exact ar.int_any km kz (by
      have := ar.addz_le (decide (x < 0)) (decide (a < 0)) x.natAbs a.natAbs
      rw [hkz]; unfold ar.BB; omega) X
  clear hS1 hS2 hS3 hkm hkz hsv bn1 bn2
  rw [(fit_no _ hXY).1, (fit_no _ hXY).2] at Q4
  clear hX hY hXY
  clear H
  generalize hm : l.length = m at *
  have HMm := Lib.hid hm
  clear hm
  go_enter Try.func19, Try.ntmps19
  go_wp2_with fail
  refine (Q1.out _).mono ?_; rintro e u1 ⟨rfl, hb⟩
  have HB := Lib.hid (bl_tr HB.out hb)
  clear hb
  go_wp2_with fail
  refine (Q2.out _).mono ?_; rintro e u2 ⟨rfl, hb⟩
  have HB := Lib.hid (bl_tr HB.out hb)
  clear hb
  go_wp2_with fail
  refine (Q3.out _).mono ?_; rintro e u3 ⟨rfl, hb⟩
  have HB := Lib.hid (bl_tr HB.out hb)
  clear hb
  go_wp2_with fail
  refine (Q4.out _).mono ?_; rintro e u4 ⟨rfl, hb⟩
  have HB := Lib.hid (bl_tr HB.out hb)
  clear hb Q1 Q2 Q3 Q4
  have F := Lib.hid (show RDid (.tuple #[.int .i64 0, .bool false, .int .i64 12]) g b l s k c o n d w (.returned (.tuple #[.int .i64 0, .bool false, .int .i64 12])) u4 from ⟨rfl, HR.out.keep HB.out, Ch.of HB.out⟩)
  clear HB HR
  go_wp2
  go_ret3
  exact F.out
set_option maxHeartbeats 2000000 in
theorem rdo_miss (g b : Nat) (l : List Int) (s k c o n : Int) (d : Bool) (kd i a bb : Int) (hi : i < 0 ∨ (l.length : Int) ≤ i) (w : World) (h : RB g b l s k c o n d w) :
    Calls Try.prog 19 #[.pointer (some ⟨g, 0, none⟩), .int .i64 kd, .int .i64 i, .int .i64 a, .int .i64 bb] w (RDid (.tuple #[.int .i64 0, .bool false, .int .i64 11]) g b l s k c o n d w) := by
  have F : Hid (RDid (.tuple #[.int .i64 0, .bool false, .int .i64 11]) g b l s k c o n d w (.returned (.tuple #[.int .i64 0, .bool false, .int .i64 11])) w) := ⟨rfl, h, Ch.refl _ _ _⟩
  obtain ⟨c0, c1, c2, c3, c4, c5, c6, fg, cb, fb⟩ := h.rc
  clear cb h c1 c2 c3 c4 c5 c6 fg fb
  generalize hm : l.length = m at *
  have HMm := Lib.hid hm
  clear hm
  by_cases h0 : i < 0
  · clear hi
    go_enter Try.func19, Try.ntmps19
    go_wp2
    go_ret3
    exact F.out
  · have h1 : (m : Int) ≤ i := by omega
    have d0 : decide (i < 0) = false := decide_eq_false h0
    clear hi
    go_enter Try.func19, Try.ntmps19
    go_wp2
    go_ret3
    exact F.out
end Go.Proofs.Ytdeggnefbkcegaa

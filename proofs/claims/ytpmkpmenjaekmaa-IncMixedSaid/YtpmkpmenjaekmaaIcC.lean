/-
  What look, swap and Step of an act do.
-/
import Derived.Test.YtpmkpmenjaekmaaIcB
namespace Go.Proofs.Ytpmkpmenjaekmaa
open Go.RowKit Go.MuLone
set_option linter.unusedVariables false
/-- one of the kept lists is another one now -/
def upk (vs : Nat → Value) (j : Nat) (v : Value) : Nat → Value := fun i => if i = j then v else vs i
/-- what lies there behind some stores into an act -/
structure Af (p q g b kb ia n : Nat) (vs : Nat → Value) (l : List Int) (s : Int) (wk : Int) (xv : Value) (c nx rd : Int) (tk : Bool) (w w1 : World) : Prop where
  st : Si q g b kb ia n vs l s w1
  ac : Ac p q wk xv c nx rd tk w1
  tw : Tw [g, b, kb, p] w w1
section
variable {p q g b kb ia n : Nat} {vs : Nat → Value} {l : List Int} {s : Int} {wk : Int} {xv : Value} {c nx rd : Int} {tk : Bool} {w w1 : World}
theorem Af.keepS (h : Af p q g b kb ia n vs l s wk xv c nx rd tk w w1) (j : Nat) (v : Value) : Si q g b kb ia n vs l s (w1.setCell ⟨p, j, none⟩ v) ∧ Tw [g, b, kb, p] w (w1.setCell ⟨p, j, none⟩ v) := by
  have hn := h.ac.ne h.st
  exact ⟨h.st.keep ((Tw.refl [p] w1).st p (.inl (by simp)) j v) (by simp; omega) (by simp; omega) (by simp; omega) (by simp; omega), h.tw.st p (.inl (by simp)) j v⟩
theorem Af.a4 (h : Af p q g b kb ia n vs l s wk xv c nx rd tk w w1) (y : Int) : Af p q g b kb ia n vs l s wk xv c y rd tk w (w1.setCell ⟨p, 4, none⟩ (.int .i64 y)) := ⟨(h.keepS _ _).1, h.ac.s4 y, (h.keepS _ _).2⟩
theorem Af.a5 (h : Af p q g b kb ia n vs l s wk xv c nx rd tk w w1) (y : Int) : Af p q g b kb ia n vs l s wk xv c nx y tk w (w1.setCell ⟨p, 5, none⟩ (.int .i64 y)) := ⟨(h.keepS _ _).1, h.ac.s5 y, (h.keepS _ _).2⟩
theorem Af.a6 (h : Af p q g b kb ia n vs l s wk xv c nx rd tk w w1) (y : Bool) : Af p q g b kb ia n vs l s wk xv c nx rd y w (w1.setCell ⟨p, 6, none⟩ (.bool y)) := ⟨(h.keepS _ _).1, h.ac.s6 y, (h.keepS _ _).2⟩
theorem Af.ak (h : Af p q g b kb ia n vs l s wk xv c nx rd tk w w1) (j : Nat) (hj : j < n) (v : Value) : Af p q g b kb ia n (upk vs j v) l s wk xv c nx rd tk w (w1.setCell ⟨kb, j, none⟩ v) := by
  have hn := h.ac.ne h.st
  have hm := h.st.ne
  have ht : Tw [kb] w1 (w1.setCell ⟨kb, j, none⟩ v) := (Tw.refl [kb] w1).st kb (.inl (by simp)) j v
  obtain ⟨C, hC, h2, h3⟩ := h.st.kep
  obtain ⟨k, c, o, m, d, hmm⟩ := h.st.mem
  refine ⟨⟨blk_tw h.st.box ht (by simp; omega), ⟨C.setIfInBounds j v, blk_set hC j v, by simpa using h2, fun i hi => ?_⟩, h.st.len, h.st.len2, h.st.n1, h.st.n16, k, c, o, m, d, ⟨blk_tw hmm.1 ht (by simp; omega), blk_tw hmm.2 ht (by simp; omega)⟩⟩, h.ac.keep ht (by simp; omega), h.tw.st kb (.inl (by simp)) j v⟩
  unfold upk
  rw [Array.getElem?_setIfInBounds, h3 i hi]
  by_cases e : j = i
  · subst e; simp; omega
  · rw [if_neg e, if_neg (fun h => e h.symm)]
set_option maxHeartbeats 4000000 in
theorem look_any (x nx0 : Int) (hx : nth l ia = x) (hn : nx = if x / 16 ≤ c then 2 else 1) (s0 : 0 ≤ s) (s1 : s ≤ 1000000) (h : Si q g b kb ia n vs l s w) (ha : Ac p q wk xv c nx0 rd tk w) :
    Calls Try.prog 31 #[.pointer (some ⟨p, 0, none⟩)] w fun e w' => e = .returned (.tuple #[]) ∧ Af p q g b kb ia n vs l (s + 1) wk xv c nx x tk w w' := by
  obtain ⟨c0, c1, c2, c3, c4, c5, c6, fz⟩ := ha.cells
  have NE := Lib.hid (ha.ne h)
  have LP := Lib.hid (lt_hp ha)
  have A0 := Lib.hid ha
  have R := Lib.hid (fun W (hW : Si q g b kb ia n vs l s W) => read_any s0 s1 hW)
  have F0 := Lib.hid h
  have CO := Lib.hid (fun W => costOf_any x W)
  rw [hx] at R
  have HN := Lib.hid hn
  clear h ha s0 s1 hx hn c1 c2 c4 c6
  go_enter Try.func31, Try.ntmps31
  go_wp2_with fail
  refine (R.out _ F0.out).mono ?_; rintro e w1 ⟨rfl, f1, f2⟩
  have A1 := Lib.hid (show Af p q g b kb ia n vs l (s + 1) wk xv c nx0 rd tk w w1 from ⟨f1, A0.out.keep f2 (by have := NE.out; simp; omega), f2.mono (by simp)⟩)
  clear f1 f2 R F0 A0 c0 c3 c5 fz
  obtain ⟨c0, c1, c2, c3, c4, c5, c6, fz⟩ := A1.out.ac.cells
  clear c1 c2 c6
  go_wp2_with fail
  have A2 := Lib.hid ((A1.out.a5 x).a4 1)
  generalize ((w1.setCell ⟨p, 5, none⟩ (.int .i64 x)).setCell ⟨p, 4, none⟩ (.int .i64 1)) = u1 at *
  clear A1 c0 c3 c4 c5 fz
  obtain ⟨c0, c1, c2, c3, c4, c5, c6, fz⟩ := A2.out.ac.cells
  clear c1 c2 c6 c0
  have c4 : u1.drew.cell? ⟨p, 4, none⟩ = some (.int .i64 1) := c4
  have fz : ∀ j, u1.drew.frozen? ⟨p, j, none⟩ = false := fz
  have A2 := Lib.hid (show Af p q g b kb ia n vs l (s + 1) wk xv c 1 x tk w u1.drew from ⟨A2.out.st.dr, A2.out.ac, A2.out.tw.dr⟩)
  generalize hy : x / 16 = y at *
  go_region_held3 (fun w' => w'.cell? ⟨p, 3, none⟩ = some (.int .i64 c) ∧ w'.cell? ⟨p, 5, none⟩ = some (.int .i64 x)) (first | exact ⟨c3, c5⟩ | simp [go_sem, c3, c5])
    (first | (go_at_call 29; (with_reducible refine (CO.out _).mono ?_); rintro e w2 ⟨rfl, rfl⟩))
  all_goals
    by_cases hx1 : y ≤ c
    · have e1 := HN.out
      rw [if_pos hx1] at e1
      subst e1
      go_wp2
      go_end0
      exact ⟨rfl, A2.out.a4 2⟩
    · have e1 := HN.out
      rw [if_neg hx1] at e1
      subst e1
      have d1 : decide (y ≤ c) = false := decide_eq_false hx1
      go_wp2
      go_end0
      exact ⟨rfl, A2.out⟩
/-! swap -/
def swl (l : List Int) (ia : Nat) (rd y : Int) : List Int := if nth l ia = rd then l.set ia y else l
theorem swl_yes (l : List Int) (ia : Nat) (rd y : Int) (h : nth l ia = rd) : swl l ia rd y = l.set ia y := if_pos h
theorem swl_no (l : List Int) (ia : Nat) (rd y : Int) (h : ¬ nth l ia = rd) : swl l ia rd y = l := if_neg h
theorem casS (x y : Int) (dn : Bool) (hx : nth l ia = x) (hd : decide (x = rd) = dn) (s0 : 0 ≤ s) (s1 : s ≤ 1000000) (h : Si q g b kb ia n vs l s w) :
    Calls Try.prog 39 #[.pointer (some ⟨g, 0, none⟩), .int .i64 ia, .int .i64 rd, .int .i64 y] w fun e w' => e = .returned (.tuple #[.bool dn, .int .i64 0]) ∧ Si q g b kb ia n vs (swl l ia rd y) (s + 1) w' ∧ Tw [g, b] w w' := by
  have h' := h
  have hl := h.len
  obtain ⟨k, c, o, m, d, hm⟩ := h.mem
  by_cases e : x = rd
  · have hd2 : dn = true := by rw [← hd]; exact decide_eq_true e
    refine (cas_ok g b l s k c o m d ia x rd y y dn ia rfl hl hx (.inl ⟨e, rfl, hd2⟩) s0 s1 w hm).mono ?_
    intro e2 w1 hdd
    rw [swl_yes l ia rd y (hx.trans e)]
    exact h'.did hdd (by simp)
  · have hd2 : dn = false := by rw [← hd]; exact decide_eq_false e
    refine (cas_ok g b l s k c o m d ia x rd y x dn ia rfl hl hx (.inr ⟨e, rfl, hd2⟩) s0 s1 w hm).mono ?_
    intro e2 w1 hdd
    rw [swl_no l ia rd y (fun h => e (hx.symm.trans h))]
    rw [← hx, set_self] at hdd
    exact h'.did hdd rfl
set_option maxHeartbeats 8000000 in
theorem swap_any (x nx0 : Int) (cn wn : Nat) (av : Option Addr) (nv cv : Nat) (dn : Bool) (hxv : xv = .slice av nv cv) (hc : c = cn) (hc1 : cn ≤ 1125899906842624) (hwk : wk = wn) (hwn : wn < n) (hx : nth l ia = x) (hd : decide (x = rd) = dn) (s0 : 0 ≤ s) (s1 : s ≤ 1000000) (h : Si q g b kb ia n vs l s w) (ha : Ac p q wk xv c nx0 rd tk w) :
    Calls Try.prog 32 #[.pointer (some ⟨p, 0, none⟩)] w fun e w' => e = .returned (.tuple #[]) ∧ Af p q g b kb ia n (if dn then upk vs wn xv else vs) (swl l ia rd ((cn : Int) * 16 + wn)) (s + 1) wk xv c (if dn then 2 else 0) rd dn w w' := by
  subst hxv hc hwk
  have n16 := h.n16
  obtain ⟨c0, c1, c2, c3, c4, c5, c6, fz⟩ := ha.cells
  obtain ⟨q0, q1, q2⟩ := h.cells
  have NE := Lib.hid (ha.ne h)
  have F1 := Lib.hid h.dr
  have F3 := Lib.hid (show Ac p q wn (.slice av nv cv) cn nx0 rd tk w.drew from ha)
  have F2 := Lib.hid (Tw.refl [g, b] w.drew)
  have R := Lib.hid (fun W (hW : Si q g b kb ia n vs l s W) => casS (rd := rd) x ((cn : Int) * 16 + wn) dn hx hd s0 s1 hW)
  have NU := Lib.hid (fun W => number_any cn wn hc1 (by omega) W)
  clear h ha s0 s1 hx hd c4 c6 hc1
  generalize swl l ia rd ((cn : Int) * 16 + wn) = l2 at *
  generalize (cn : Int) * 16 + (wn : Int) = N at *
  have i2 : (wn : Int) < (n : Int) := by omega
  go_enter Try.func32, Try.ntmps32
  go_wp2_with fail
  go_region_held3 (fun w' => w'.cell? ⟨q, 0, none⟩ = some (.pointer (some ⟨g, 0, none⟩)) ∧ w'.cell? ⟨q, 1, none⟩ = some (.int .i64 ia) ∧ w'.cell? ⟨p, 5, none⟩ = some (.int .i64 rd) ∧ w'.cell? ⟨p, 3, none⟩ = some (.int .i64 cn) ∧ w'.cell? ⟨p, 1, none⟩ = some (.int .i64 wn)) (first | exact ⟨q0, q1, c5, c3, c1⟩ | simp [go_sem, q0, q1, c5, c3, c1])
    (first
      | (go_at_call 26; (with_reducible refine (NU.out _).mono ?_); rintro e w1 ⟨rfl, rfl⟩)
      | (go_at_call 39; (with_reducible refine (R.out _ F1.out).mono ?_); rintro e w1 ⟨rfl, f1, f2⟩; have F1 := Lib.hid f1; have F2 := Lib.hid (F2.out.trans f2); have F3 := Lib.hid (F3.out.keep f2 (by have := NE.out; simp; omega)); obtain ⟨q0, q1, q2⟩ := f1.cells; obtain ⟨c0, c1, c2, c3, c4, c5, c6, fz⟩ := F3.out.cells; clear f1 f2))
  all_goals
    clear R NU
    have A1 := Lib.hid ((⟨F1.out, F3.out, F2.out.undr.mono (by simp)⟩ : Af p q g b kb ia n vs l2 (s + 1) wn (.slice av nv cv) cn nx0 rd tk w w1).a6 dn)
    clear F1 F2 F3 c0 c1 c2 c3 c4 c5 c6 fz q0 q1 q2
    generalize (w1.setCell ⟨p, 6, none⟩ (.bool dn)) = u1 at *
    obtain ⟨c0, c1, c2, c3, c4, c5, c6, fz⟩ := A1.out.ac.cells
    clear c0 c1 c2 c3 c5
    cases dn
    · go_wp2
      go_end0
      exact ⟨rfl, A1.out.a4 0⟩
    · go_wp2_with fail
      have A2 := Lib.hid (A1.out.a4 0)
      generalize (u1.setCell ⟨p, 4, none⟩ (.int .i64 0)) = u2 at *
      clear A1 c4 c6 fz
      obtain ⟨c0, c1, c2, c3, c4, c5, c6, fz⟩ := A2.out.ac.cells
      obtain ⟨q0, q1, q2⟩ := A2.out.st.cells
      obtain ⟨k0, k1⟩ := A2.out.st.kc wn hwn
      have e1 : q ≠ kb := A2.out.st.ne.2.2.1
      have e2 : p ≠ kb := (A2.out.ac.ne A2.out.st).2.2.2
      clear c0 c3 c4 c5 c6 fz q0 q1
      go_region_held3 (fun w' => w'.cell? ⟨q, 2, none⟩ = some (.slice (some ⟨kb, 0, none⟩) n n) ∧ w'.cell? ⟨p, 1, none⟩ = some (.int .i64 wn) ∧ w'.cell? ⟨p, 2, none⟩ = some (.slice av nv cv)) (first | exact ⟨q2, c1, c2⟩ | (refine ⟨?_, ?_, ?_⟩ <;> simp [go_sem, *])) (first | fail)
      all_goals
        have A3 := A2.out.ak wn hwn (.slice av nv cv)
        have A3 := Lib.hid (show Af p q g b kb ia n (upk vs wn (.slice av nv cv)) l2 (s + 1) wn (.slice av nv cv) cn 0 rd true w (u2.setCell ⟨kb, wn, none⟩ (.slice av nv cv)).drew from ⟨A3.st.dr, A3.ac, A3.tw.dr⟩)
        generalize (u2.setCell ⟨kb, wn, none⟩ (.slice av nv cv)).drew = u3 at *
        clear A2 c1 c2 q2 k0 k1
        obtain ⟨c0, c1, c2, c3, c4, c5, c6, fz⟩ := A3.out.ac.cells
        clear c0 c1 c2 c3 c5 c6
        go_wp2
        go_end0
        exact ⟨rfl, A3.out.a4 2⟩
theorem step_nilA (w : World) : Calls Try.prog 14 #[.pointer none] w fun e w' => e = .returned (.bool true) ∧ w = w' := by
  go_enter Try.func14, Try.ntmps14
  go_wp2_with fail
  refine (over_nil _).mono ?_; rintro e w1 ⟨rfl, rfl⟩
  go_wp2
  go_ret
  exact ⟨rfl, rfl⟩
theorem step_overA (h : Ac p q wk xv c 2 rd tk w) : Calls Try.prog 14 #[.pointer (some ⟨p, 0, none⟩)] w fun e w' => e = .returned (.bool true) ∧ w = w' := by
  have O := Lib.hid (over_any true rfl h)
  clear h
  go_enter Try.func14, Try.ntmps14
  go_wp2_with fail
  refine O.out.mono ?_; rintro e w1 ⟨rfl, rfl⟩
  go_wp2
  go_ret
  exact ⟨rfl, rfl⟩
set_option maxHeartbeats 2000000 in
theorem step_look (x : Int) (hx : nth l ia = x) (hn : nx = if x / 16 ≤ c then 2 else 1) (s0 : 0 ≤ s) (s1 : s ≤ 1000000) (h : Si q g b kb ia n vs l s w) (ha : Ac p q wk xv c 0 rd tk w) :
    Calls Try.prog 14 #[.pointer (some ⟨p, 0, none⟩)] w fun e w' => e = .returned (.bool (nx == 2)) ∧ Af p q g b kb ia n vs l (s + 1) wk xv c nx x tk w w' := by
  have O := Lib.hid (over_any false rfl ha)
  have O2 := Lib.hid (fun W (hW : Af p q g b kb ia n vs l (s + 1) wk xv c nx x tk w W) => over_any (nx == 2) rfl hW.ac)
  have L := Lib.hid (look_any x 0 hx hn s0 s1 h ha)
  have c4 := ha.cells.2.2.2.2.1
  clear h ha hx hn s0 s1
  go_enter Try.func14, Try.ntmps14
  go_wp2_with fail
  refine O.out.mono ?_; rintro e w1 ⟨rfl, rfl⟩
  go_wp2_with fail
  refine L.out.mono ?_; rintro e w1 ⟨rfl, f1⟩
  have F1 := Lib.hid f1
  clear f1
  go_wp2_with fail
  refine (O2.out _ F1.out).mono ?_; rintro e w2 ⟨rfl, rfl⟩
  go_wp2
  go_ret
  exact ⟨rfl, F1.out⟩
set_option maxHeartbeats 2000000 in
theorem step_swap (x : Int) (cn wn : Nat) (dn : Bool) (hxv : ∃ av nv cv, xv = .slice av nv cv) (hc : c = cn) (hc1 : cn ≤ 1125899906842624) (hwk : wk = wn) (hwn : wn < n) (hx : nth l ia = x) (hd : decide (x = rd) = dn) (s0 : 0 ≤ s) (s1 : s ≤ 1000000) (h : Si q g b kb ia n vs l s w) (ha : Ac p q wk xv c 1 rd tk w) :
    Calls Try.prog 14 #[.pointer (some ⟨p, 0, none⟩)] w fun e w' => e = .returned (.bool dn) ∧ Af p q g b kb ia n (if dn then upk vs wn xv else vs) (swl l ia rd ((cn : Int) * 16 + wn)) (s + 1) wk xv c (if dn then 2 else 0) rd dn w w' := by
  obtain ⟨av, nv, cv, hxv⟩ := hxv
  have O := Lib.hid (over_any false rfl ha)
  have L := Lib.hid (swap_any x 1 cn wn av nv cv dn hxv hc hc1 hwk hwn hx hd s0 s1 h ha)
  have c4 := ha.cells.2.2.2.2.1
  clear h ha hx s0 s1 hd hc hc1 hwk hwn hxv
  generalize swl l ia rd ((cn : Int) * 16 + wn) = l2 at *
  generalize (if dn then upk vs wn xv else vs) = vs2 at *
  have O2 := Lib.hid (fun W (hW : Af p q g b kb ia n vs2 l2 (s + 1) wk xv c (if dn then 2 else 0) rd dn w W) => over_any dn (by cases dn <;> rfl) hW.ac)
  generalize (if dn then (2 : Int) else 0) = nx at *
  go_enter Try.func14, Try.ntmps14
  go_wp2_with fail
  refine O.out.mono ?_; rintro e w1 ⟨rfl, rfl⟩
  go_wp2_with fail
  refine L.out.mono ?_; rintro e w1 ⟨rfl, f1⟩
  have F1 := Lib.hid f1
  clear f1
  go_wp2_with fail
  refine (O2.out _ F1.out).mono ?_; rintro e w2 ⟨rfl, rfl⟩
  go_wp2
  go_ret
  exact ⟨rfl, F1.out⟩
end
end Go.Proofs.Ytpmkpmenjaekmaa

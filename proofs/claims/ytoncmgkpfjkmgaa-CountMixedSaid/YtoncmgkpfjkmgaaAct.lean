/-
  An act of count in memory; what Over, Left, look, swap and Step answer.
-/
import Derived.Test.YtoncmgkpfjkmgaaCt
namespace Go.Proofs.Ytoncmgkpfjkmgaa
open Go.RowKit Go.MuLone
set_option linter.unusedVariables false
theorem over_nil (w : World) : Calls Try.prog 15 #[.pointer none] w fun e w' => e = .returned (.bool true) ∧ w = w' := by
  go_enter Try.func15, Try.ntmps15
  go_wp2
  go_ret
  exact ⟨rfl, rfl⟩
theorem left_nil (w : World) : Calls Try.prog 17 #[.pointer none] w fun e w' => e = .returned (.bool false) ∧ w = w' := by
  go_enter Try.func17, Try.ntmps17
  go_wp2
  go_ret
  exact ⟨rfl, rfl⟩
theorem over_any (p q : Nat) (nx ac : Int) (lf r : Bool) (hr : (nx == 2) = r) (w : World) (h : Ac p q nx ac lf w) : Calls Try.prog 15 #[.pointer (some ⟨p, 0, none⟩)] w fun e w' => e = .returned (.bool r) ∧ w = w' := by
  have c0 := (cell_of_row w p 0 _ 67 _ h).trans rfl
  have c1 := (cell_of_row w p 1 _ 67 _ h).trans rfl
  clear h
  subst hr
  go_enter Try.func15, Try.ntmps15
  go_wp2
  go_ret
  exact ⟨rfl, rfl⟩
theorem left_any (p q : Nat) (nx ac : Int) (lf : Bool) (w : World) (h : Ac p q nx ac lf w) : Calls Try.prog 17 #[.pointer (some ⟨p, 0, none⟩)] w fun e w' => e = .returned (.bool lf) ∧ w = w' := by
  have c3 := (cell_of_row w p 3 _ 67 _ h).trans rfl
  clear h
  go_enter Try.func17, Try.ntmps17
  go_wp2
  go_ret
  exact ⟨rfl, rfl⟩
theorem Ac.ne {p q q2 g b base : Nat} {nx ac : Int} {lf : Bool} {l : List Int} {s : Int} {w : World} (h : Ac p q2 nx ac lf w) (k : St q g b base l s w) : p ≠ g ∧ p ≠ b ∧ p ≠ q := by
  obtain ⟨kk, c, o, n, d, hm⟩ := k.mem
  exact ⟨blk_ty h hm.1 (by decide), blk_ty h hm.2 (by decide), blk_ty h k.box (by decide)⟩
theorem Ac.keep {p q : Nat} {nx ac : Int} {lf : Bool} {S : List Nat} {w w1 : World} (h : Ac p q nx ac lf w) (k : Tw S w w1) (hp : p ∉ S) : Ac p q nx ac lf w1 := blk_tw h k hp
theorem Ac.cells {p q : Nat} {nx ac : Int} {lf : Bool} {w : World} (h : Ac p q nx ac lf w) : w.cell? ⟨p, 0, none⟩ = some (.pointer (some ⟨q, 0, none⟩)) ∧ w.cell? ⟨p, 1, none⟩ = some (.int .i64 nx) ∧ w.cell? ⟨p, 2, none⟩ = some (.int .i64 ac) ∧ w.cell? ⟨p, 3, none⟩ = some (.bool lf) ∧ ∀ j, w.frozen? ⟨p, j, none⟩ = false :=
  ⟨(cell_of_row w p 0 _ 67 _ h).trans rfl, (cell_of_row w p 1 _ 67 _ h).trans rfl, (cell_of_row w p 2 _ 67 _ h).trans rfl, (cell_of_row w p 3 _ 67 _ h).trans rfl, fun j => by unfold Ac at h; simp [World.frozen?, h]⟩
theorem Ac.s1 {p q : Nat} {nx ac : Int} {lf : Bool} {w : World} (h : Ac p q nx ac lf w) (y : Int) : Ac p q y ac lf (w.setCell ⟨p, 1, none⟩ (.int .i64 y)) := (blk_set h 1 (.int .i64 y)).trans rfl
theorem Ac.s2 {p q : Nat} {nx ac : Int} {lf : Bool} {w : World} (h : Ac p q nx ac lf w) (y : Int) : Ac p q nx y lf (w.setCell ⟨p, 2, none⟩ (.int .i64 y)) := (blk_set h 2 (.int .i64 y)).trans rfl
theorem Ac.s3 {p q : Nat} {nx ac : Int} {lf : Bool} {w : World} (h : Ac p q nx ac lf w) (y : Bool) : Ac p q nx ac y (w.setCell ⟨p, 3, none⟩ (.bool y)) := (blk_set h 3 (.bool y)).trans rfl
/-- what lies there behind some stores into an act -/
structure Af (p q g b base : Nat) (l : List Int) (s : Int) (nx ac : Int) (lf : Bool) (w w1 : World) : Prop where
  st : St q g b base l s w1
  ac : Ac p q nx ac lf w1
  ne : p ≠ g ∧ p ≠ b ∧ p ≠ q
  tw : Tw [g, b, p] w w1
theorem Af.keepS {p q g b base : Nat} {l : List Int} {s nx ac : Int} {lf : Bool} {w w1 : World} (h : Af p q g b base l s nx ac lf w w1) (j : Nat) (v : Value) : St q g b base l s (w1.setCell ⟨p, j, none⟩ v) ∧ Tw [g, b, p] w (w1.setCell ⟨p, j, none⟩ v) := by
  have hn := h.ne
  exact ⟨h.st.keep ((Tw.refl [p] w1).st p (.inl (by simp)) j v) (by simp; omega) (by simp; omega) (by simp; omega), h.tw.st p (.inl (by simp)) j v⟩
theorem Af.a1 {p q g b base : Nat} {l : List Int} {s nx ac : Int} {lf : Bool} {w w1 : World} (h : Af p q g b base l s nx ac lf w w1) (y : Int) : Af p q g b base l s y ac lf w (w1.setCell ⟨p, 1, none⟩ (.int .i64 y)) := ⟨(h.keepS _ _).1, h.ac.s1 y, h.ne, (h.keepS _ _).2⟩
theorem Af.a2 {p q g b base : Nat} {l : List Int} {s nx ac : Int} {lf : Bool} {w w1 : World} (h : Af p q g b base l s nx ac lf w w1) (y : Int) : Af p q g b base l s nx y lf w (w1.setCell ⟨p, 2, none⟩ (.int .i64 y)) := ⟨(h.keepS _ _).1, h.ac.s2 y, h.ne, (h.keepS _ _).2⟩
theorem Af.a3 {p q g b base : Nat} {l : List Int} {s nx ac : Int} {lf : Bool} {w w1 : World} (h : Af p q g b base l s nx ac lf w w1) (y : Bool) : Af p q g b base l s nx ac y w (w1.setCell ⟨p, 3, none⟩ (.bool y)) := ⟨(h.keepS _ _).1, h.ac.s3 y, h.ne, (h.keepS _ _).2⟩
set_option maxHeartbeats 4000000 in
theorem look_any (p q g b base : Nat) (l : List Int) (s x : Int) (ac nx0 nx : Int) (lf : Bool) (hx : nth l (base + 1) = x) (hn : nx = if x ≤ 1 then 2 else 1) (s0 : 0 ≤ s) (s1 : s ≤ 1000000) (w : World) (h : St q g b base l s w) (ha : Ac p q nx0 ac lf w) :
    Calls Try.prog 28 #[.pointer (some ⟨p, 0, none⟩)] w fun e w' => e = .returned (.tuple #[]) ∧ Af p q g b base l (s + 1) nx x lf w w' := by
  have hl := h.len
  have hl2 := h.len2
  have c0 : w.cell? ⟨p, 0, none⟩ = some (.pointer (some ⟨q, 0, none⟩)) := (cell_of_row w p 0 _ 67 _ ha).trans rfl
  have NE := Lib.hid (ha.ne h)
  have LP := Lib.hid (lt_hp ha)
  have F1 := Lib.hid h.dr
  have F3 := Lib.hid (show Ac p q nx0 ac lf w.drew from ha)
  have F2 := Lib.hid (Tw.refl [g, b] w.drew)
  have K := Lib.hid (fun W (hW : St q g b base l s W) => working_any q base (by omega) W hW.c1)
  have R := Lib.hid (fun W (hW : St q g b base l s W) => read_any q g b base l s ((base : Int) + 1) (base + 1) (by omega) (by omega) s0 s1 W hW)
  rw [hx] at R
  clear h hl hl2 ha s0 s1 hx
  have HN := Lib.hid hn
  clear hn
  go_enter Try.func28, Try.ntmps28
  go_wp2_with fail
  go_region_held3 (fun w' => w'.cell? ⟨p, 0, none⟩ = some (.pointer (some ⟨q, 0, none⟩))) (first | exact c0 | simp [go_sem, c0])
    (first
      | (go_at_call 24; (with_reducible refine (K.out _ F1.out).mono ?_); rintro e w1 ⟨rfl, rfl⟩)
      | (go_at_call 27; (with_reducible refine (R.out _ F1.out).mono ?_); rintro e w1 ⟨rfl, f1, f2⟩; have F1 := Lib.hid f1; have F2 := Lib.hid (F2.out.trans f2); have F3 := Lib.hid (F3.out.keep f2 (by have := NE.out; simp; omega)); obtain ⟨c0, c1, c2, c3, fz⟩ := F3.out.cells; clear f1 f2))
  all_goals
    clear K R
    have A1 := Lib.hid ((⟨F1.out, F3.out, NE.out, F2.out.undr.mono (by simp)⟩ : Af p q g b base l (s + 1) nx0 ac lf w w1).a2 x)
    clear F1 F2 F3 c0 c1 c2 c3 fz
    obtain ⟨c0, c1, c2, c3, fz⟩ := A1.out.ac.cells
    generalize (w1.setCell ⟨p, 2, none⟩ (.int .i64 x)) = u1 at *
    by_cases hx1 : x ≤ 1
    · have e1 := HN.out
      rw [if_pos hx1] at e1
      subst e1
      go_wp2
      go_end0
      exact ⟨rfl, (A1.out.a1 1).a1 2⟩
    · have e1 := HN.out
      rw [if_neg hx1] at e1
      subst e1
      have d1 : decide (x ≤ 1) = false := decide_eq_false hx1
      go_wp2
      go_end0
      exact ⟨rfl, A1.out.a1 1⟩
/-- what a swap of the number at work leaves -/
def swl (l : List Int) (base : Nat) (ac : Int) : List Int := if nth l (base + 1) = ac then l.set (base + 1) (ac - 1) else l
theorem swl_yes (l : List Int) (base : Nat) (ac : Int) (h : nth l (base + 1) = ac) : swl l base ac = l.set (base + 1) (ac - 1) := if_pos h
theorem swl_no (l : List Int) (base : Nat) (ac : Int) (h : ¬ nth l (base + 1) = ac) : swl l base ac = l := if_neg h
theorem casS (q g b base : Nat) (l : List Int) (s ac x : Int) (dn : Bool) (hx : nth l (base + 1) = x) (hd : decide (x = ac) = dn) (s0 : 0 ≤ s) (s1 : s ≤ 1000000) (w : World) (h : St q g b base l s w) :
    Calls Try.prog 38 #[.pointer (some ⟨g, 0, none⟩), .int .i64 ((base : Int) + 1), .int .i64 ac, .int .i64 (ac - 1)] w fun e w' => e = .returned (.tuple #[.bool dn, .int .i64 0]) ∧ St q g b base (swl l base ac) (s + 1) w' ∧ Tw [g, b] w w' := by
  have hl := h.len
  have h' := h
  obtain ⟨k, c, o, n, d, hm⟩ := h.mem
  by_cases e : x = ac
  · have hd2 : dn = true := by rw [← hd]; exact decide_eq_true e
    refine (cas_ok g b l s k c o n d ((base : Int) + 1) x ac (ac - 1) (ac - 1) dn (base + 1) (by omega) (by omega) hx (.inl ⟨e, rfl, hd2⟩) s0 s1 w hm).mono ?_
    intro e2 w1 hdd
    rw [swl_yes l base ac (hx.trans e)]
    exact h'.did hdd (by simp)
  · have hd2 : dn = false := by rw [← hd]; exact decide_eq_false e
    refine (cas_ok g b l s k c o n d ((base : Int) + 1) x ac (ac - 1) x dn (base + 1) (by omega) (by omega) hx (.inr ⟨e, rfl, hd2⟩) s0 s1 w hm).mono ?_
    intro e2 w1 hdd
    rw [swl_no l base ac (fun h => e (hx.symm.trans h))]
    rw [← hx, set_self] at hdd
    exact h'.did hdd rfl
set_option maxHeartbeats 4000000 in
theorem swap_any (p q g b base : Nat) (l : List Int) (s x : Int) (ac nx0 nx : Int) (lf dn : Bool) (hx : nth l (base + 1) = x) (hd : decide (x = ac) = dn) (hn : nx = if dn then 2 else 0) (a0 : 0 ≤ ac) (a1 : ac ≤ 1000) (s0 : 0 ≤ s) (s1 : s ≤ 1000000) (w : World) (h : St q g b base l s w) (ha : Ac p q nx0 ac lf w) :
    Calls Try.prog 29 #[.pointer (some ⟨p, 0, none⟩)] w fun e w' => e = .returned (.tuple #[]) ∧ Af p q g b base (swl l base ac) (s + 1) nx ac dn w w' := by
  have hl := h.len
  have hl2 := h.len2
  have c0 : w.cell? ⟨p, 0, none⟩ = some (.pointer (some ⟨q, 0, none⟩)) := ha.cells.1
  have c2 : w.cell? ⟨p, 2, none⟩ = some (.int .i64 ac) := ha.cells.2.2.1
  have cq : w.cell? ⟨q, 0, none⟩ = some (.pointer (some ⟨g, 0, none⟩)) := h.c0
  have NE := Lib.hid (ha.ne h)
  have neq := (ha.ne h).2.2
  have F1 := Lib.hid h.dr
  have F3 := Lib.hid (show Ac p q nx0 ac lf w.drew from ha)
  have F2 := Lib.hid (Tw.refl [g, b] w.drew)
  have K := Lib.hid (fun W (hW : St q g b base l s W) => working_any q base (by omega) W hW.c1)
  have R := Lib.hid (fun W (hW : St q g b base l s W) => casS q g b base l s ac x dn hx hd s0 s1 W hW)
  clear h hl hl2 ha s0 s1 hx hd
  generalize swl l base ac = l2 at *
  have HN := Lib.hid hn
  clear hn
  have hw : IntKind.i64.wrap (ac - 1) = ac - 1 := IntWalk.i64_in _ (by omega)
  go_enter Try.func29, Try.ntmps29
  go_wp2_with fail
  go_region_held3 (fun w' => w'.cell? ⟨q, 0, none⟩ = some (.pointer (some ⟨g, 0, none⟩)) ∧ w'.cell? ⟨p, 2, none⟩ = some (.int .i64 ac)) (first | exact ⟨cq, c2⟩ | simp [go_sem, cq, c2])
    (first
      | (go_at_call 24; (with_reducible refine (K.out _ F1.out).mono ?_); rintro e w1 ⟨rfl, rfl⟩)
      | (go_at_call 38; (with_reducible refine (R.out _ F1.out).mono ?_); rintro e w1 ⟨rfl, f1, f2⟩; have F1 := Lib.hid f1; have F2 := Lib.hid (F2.out.trans f2); have F3 := Lib.hid (F3.out.keep f2 (by have := NE.out; simp; omega)); have cq := f1.c0; obtain ⟨c0, c1, c2, c3, fz⟩ := F3.out.cells; clear f1 f2))
  all_goals
    clear K R
    have A1 := Lib.hid ((⟨F1.out, F3.out, NE.out, F2.out.undr.mono (by simp)⟩ : Af p q g b base l2 (s + 1) nx0 ac lf w w1).a3 dn)
    clear F1 F2 F3 c0 c1 c2 c3 fz cq
    obtain ⟨c0, c1, c2, c3, fz⟩ := A1.out.ac.cells
    generalize (w1.setCell ⟨p, 3, none⟩ (.bool dn)) = u1 at *
    cases dn
    · have e1 := HN.out
      simp at e1
      subst e1
      go_wp2
      go_end0
      exact ⟨rfl, A1.out.a1 0⟩
    · have e1 := HN.out
      simp at e1
      subst e1
      go_wp2
      go_end0
      exact ⟨rfl, (A1.out.a1 0).a1 2⟩
theorem step_nilA (w : World) : Calls Try.prog 16 #[.pointer none] w fun e w' => e = .returned (.bool true) ∧ w = w' := by
  go_enter Try.func16, Try.ntmps16
  go_wp2_with fail
  refine (over_nil _).mono ?_; rintro e w1 ⟨rfl, rfl⟩
  go_wp2
  go_ret
  exact ⟨rfl, rfl⟩
theorem step_overA (p q : Nat) (ac : Int) (lf : Bool) (w : World) (h : Ac p q 2 ac lf w) : Calls Try.prog 16 #[.pointer (some ⟨p, 0, none⟩)] w fun e w' => e = .returned (.bool true) ∧ w = w' := by
  have O := Lib.hid (over_any p q 2 ac lf true rfl w h)
  clear h
  go_enter Try.func16, Try.ntmps16
  go_wp2_with fail
  refine O.out.mono ?_; rintro e w1 ⟨rfl, rfl⟩
  go_wp2
  go_ret
  exact ⟨rfl, rfl⟩
set_option maxHeartbeats 2000000 in
theorem step_look (p q g b base : Nat) (l : List Int) (s x : Int) (ac nx : Int) (lf : Bool) (hx : nth l (base + 1) = x) (hn : nx = if x ≤ 1 then 2 else 1) (s0 : 0 ≤ s) (s1 : s ≤ 1000000) (w : World) (h : St q g b base l s w) (ha : Ac p q 0 ac lf w) :
    Calls Try.prog 16 #[.pointer (some ⟨p, 0, none⟩)] w fun e w' => e = .returned (.bool (nx == 2)) ∧ Af p q g b base l (s + 1) nx x lf w w' := by
  have O := Lib.hid (over_any p q 0 ac lf false rfl w ha)
  have O2 := Lib.hid (fun W (hW : Af p q g b base l (s + 1) nx x lf w W) => over_any p q nx x lf (nx == 2) rfl W hW.ac)
  have L := Lib.hid (look_any p q g b base l s x ac 0 nx lf hx hn s0 s1 w h ha)
  have c1 := ha.cells.2.1
  clear h ha hx hn s0 s1
  go_enter Try.func16, Try.ntmps16
  go_wp2_with fail
  refine O.out.mono ?_; rintro e w1 ⟨rfl, rfl⟩
  go_wp2_with fail
  refine L.out.mono ?_; rintro e w1 ⟨rfl, f1⟩
  have F1 := Lib.hid f1
  clear f1
  go_wp2_with fail
  refine (O2.out _ F1.out).mono ?_; rintro e w2 ⟨rfl, rfl⟩
  go_wp2
  go_ret
  exact ⟨rfl, F1.out⟩
set_option maxHeartbeats 2000000 in
theorem step_swap (p q g b base : Nat) (l : List Int) (s x : Int) (ac nx : Int) (lf dn : Bool) (hx : nth l (base + 1) = x) (hd : decide (x = ac) = dn) (hn : nx = if dn then 2 else 0) (a0 : 0 ≤ ac) (a1 : ac ≤ 1000) (s0 : 0 ≤ s) (s1 : s ≤ 1000000) (w : World) (h : St q g b base l s w) (ha : Ac p q 1 ac lf w) :
    Calls Try.prog 16 #[.pointer (some ⟨p, 0, none⟩)] w fun e w' => e = .returned (.bool (nx == 2)) ∧ Af p q g b base (swl l base ac) (s + 1) nx ac dn w w' := by
  have O := Lib.hid (over_any p q 1 ac lf false rfl w ha)
  have L := Lib.hid (swap_any p q g b base l s x ac 1 nx lf dn hx hd hn a0 a1 s0 s1 w h ha)
  have c1 := ha.cells.2.1
  clear h ha hx hn s0 s1 hd a0 a1
  generalize swl l base ac = l2 at *
  have O2 := Lib.hid (fun W (hW : Af p q g b base l2 (s + 1) nx ac dn w W) => over_any p q nx ac dn (nx == 2) rfl W hW.ac)
  go_enter Try.func16, Try.ntmps16
  go_wp2_with fail
  refine O.out.mono ?_; rintro e w1 ⟨rfl, rfl⟩
  go_wp2_with fail
  refine L.out.mono ?_; rintro e w1 ⟨rfl, f1⟩
  have F1 := Lib.hid f1
  clear f1
  go_wp2_with fail
  refine (O2.out _ F1.out).mono ?_; rintro e w2 ⟨rfl, rfl⟩
  go_wp2
  go_ret
  exact ⟨rfl, F1.out⟩
end Go.Proofs.Ytoncmgkpfjkmgaa

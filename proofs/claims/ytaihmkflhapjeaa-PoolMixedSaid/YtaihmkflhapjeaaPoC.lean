/-
  What a Step of a Give does; Step.
-/
import Derived.Test.YtaihmkflhapjeaaPoB
import Derived.LoopN
namespace Go.Proofs.Ytaihmkflhapjeaa
open Go.RowKit Go.MuLone
set_option linter.unusedVariables false
section
variable {A : Ad} {nv : Nat → Value} {nb : Nat → Int} {hd : Nat → Bool} {ow : Nat → Value} {l : List Int} {s : Int} {w w1 : World} {a : Nat} {wk nx sl tp bl : Int} {gv : Bool} {R : List Nat}
/-- a Give of a slot that isn't held -/
theorem give_free (m : Nat) (hm : sl = m) (hm2 : m < A.n) (hh : hd m = false) (h : Po A nv nb hd ow l s w) (ha : Ac a A wk true 0 sl tp bl w) :
    Calls Try.prog 39 #[.pointer (some ⟨a, 0, none⟩)] w fun e w' => e = .returned (.tuple #[]) ∧ Af a A nv nb hd ow l s wk true 4 sl tp bl R w w' := by
  subst hm
  obtain ⟨c0, c1, c2, c3, c4, c5, c6, fz⟩ := ha.cells
  obtain ⟨q0, q1, q2, q3, q4⟩ := h.cells
  obtain ⟨k0, k1⟩ := h.hc m hm2
  rw [hh] at k0
  have n2 := h.n2
  have A0 := Lib.hid (Af.mk0 (R := R) h ha)
  have i1 : (m : Int) < (A.n : Int) := by omega
  clear h ha c1 c2 c5 c6 q0 q1 q2 q4
  go_enter Try.func39, Try.ntmps39
  go_wp2_with fail
  go_quiet (fail)
  go_wp2
  refine bodyPost_ret (results_none rfl _ _ _) rfl ?_
  exact ⟨rfl, (A0.out.dn nq).a3 4⟩
theorem Af.aside (h : Af a A nv nb hd ow l s wk gv nx sl tp bl R w w1) {S : List Nat} {w2 : World} (t : Tw S w1 w2) (hS : ∀ i, i ∈ S → i ∈ R ∧ i ≠ a ∧ i ≠ A.p ∧ i ≠ A.g ∧ i ≠ A.b ∧ i ≠ A.bn ∧ i ≠ A.bh ∧ i ≠ A.bo) : Af a A nv nb hd ow l s wk gv nx sl tp bl R w w2 :=
  ⟨h.st.keep t (fun e => (hS _ e).2.2.1 rfl) (fun e => (hS _ e).2.2.2.1 rfl) (fun e => (hS _ e).2.2.2.2.1 rfl) (fun e => (hS _ e).2.2.2.2.2.1 rfl) (fun e => (hS _ e).2.2.2.2.2.2.1 rfl) (fun e => (hS _ e).2.2.2.2.2.2.2 rfl), h.ac.keep t (fun e => (hS _ e).2.1 rfl), h.tw.trans (t.mono (fun i hi => by have := (hS i hi).1; simp; exact .inr (.inr (.inr (.inr (.inr this))))))⟩
theorem Af.up (h : Af a A nv nb hd ow l s wk gv nx sl tp bl R w w1) {w2 : World} (t : Below w1.heap.size w1 w2) : Af a A nv nb hd ow l s wk gv nx sl tp bl R w w2 := h.aside (Tw.of (S := []) t) (by simp)
theorem Ol.st {B : Nat} {v : Value} {r : List Int} (h : Ol B v r w) {x : Nat} {c : Array Value} {t : TypeId} (hx : w.heap[x]? = some (.cells c t (0, 0))) (ht : t ≠ 3) (j : Nat) (u : Value) : Ol B v r (w.setCell ⟨x, j, none⟩ u) :=
  h.keep ((Tw.refl [x] w).st x (.inl (by simp)) j u) (by
    intro i hi hv
    simp at hi
    subst hi
    obtain ⟨_, cur, hc⟩ := h.blk _ hv
    exact absurd rfl (blk_ty hx hc ht))
theorem Ol.form {B : Nat} {v : Value} {r : List Int} (h : Ol B v r w) : ∃ x c, v = .slice x r.length c := by
  rcases h with ⟨rfl, rfl⟩ | ⟨g, off, cap, cur, rfl, _⟩
  · exact ⟨_, _, rfl⟩
  · exact ⟨_, _, rfl⟩
-- a Give of a slot that is held, where there is room among the worker's own
set_option maxHeartbeats 8000000 in
theorem give_own (B wn m : Nat) (r : List Int) (hm : sl = m) (hm2 : m < A.n) (hh : hd m = true) (hr : r.length < 2) (hB : B ≤ w.heap.size) (hwk : wk = wn) (hwn : wn < A.k) (h : Po A nv nb hd ow l s w) (ha : Ac a A wk true 0 sl tp bl w) (ho : Ol B (ow wn) r w) (hoa : ∀ i, i ∈ vblk (ow wn) → i ≠ a ∧ i ≠ A.p ∧ i ≠ A.g ∧ i ≠ A.b ∧ i ≠ A.bn ∧ i ≠ A.bh ∧ i ≠ A.bo) :
    Calls Try.prog 39 #[.pointer (some ⟨a, 0, none⟩)] w fun e w' => e = .returned (.tuple #[]) ∧ ∃ v', Ol B v' (sl :: r) w' ∧ (∀ i, i ∈ vblk v' → i ∈ vblk (ow wn) ∨ w.heap.size ≤ i) ∧ Af a A nv nb (upf hd m false) (upf ow wn v') l s wk true 4 sl tp bl (vblk (ow wn)) w w' := by
  subst hm hwk
  obtain ⟨c0, c1, c2, c3, c4, c5, c6, fz⟩ := ha.cells
  obtain ⟨q0, q1, q2, q3, q4⟩ := h.cells
  obtain ⟨k0, k1⟩ := h.hc m hm2
  rw [hh] at k0
  have n2 := h.n2
  have kk2 := h.k2
  have e1 : a ≠ A.bh := (ha.ne h).h
  have e2 : A.p ≠ A.bh := h.ne.ph
  have e4 : a ≠ A.bo := (ha.ne h).o
  have e5 : A.p ≠ A.bo := h.ne.po
  have A0 := Lib.hid (Af.mk0 (R := vblk (ow wn)) h ha)
  have i1 : (m : Int) < (A.n : Int) := by omega
  have i2 : (wn : Int) < (A.k : Int) := by omega
  clear h ha c2 c5 c6 q0 q1 q2
  go_enter Try.func39, Try.ntmps39
  go_wp2_with fail
  go_quiet (fail)
  go_wp2_with fail
  go_region_held3 (fun w' => w'.cell? ⟨A.p, 3, none⟩ = some (.slice (some ⟨A.bh, 0, none⟩) A.n A.n) ∧ w'.cell? ⟨a, 4, none⟩ = some (.int .i64 m)) (first | exact ⟨q3, c4⟩ | (refine ⟨?_, ?_⟩ <;> simp [go_sem, *])) (first | fail)
  all_goals
    have A1 := Lib.hid ((A0.out.dn (nq + 1)).ah m false)
    have HO := Lib.hid (ho.keep (((Tw.refl [A.bh] w).dn (nq + 1)).st A.bh (.inl (by simp)) m (.bool false)) (by intro i hi hv; simp at hi; exact (hoa i hv).2.2.2.2.2.1 hi))
    have HS := Lib.hid (show w.heap.size ≤ ((w.drewN (nq + 1)).setCell ⟨A.bh, m, none⟩ (.bool false)).heap.size by simp [World.setCell])
    generalize ((w.drewN (nq + 1)).setCell ⟨A.bh, m, none⟩ (.bool false)) = u1 at *
    clear A0 c0 c1 c3 c4 fz q3 q4 k0 k1 ho
    obtain ⟨c0, c1, c2, c3, c4, c5, c6, fz⟩ := A1.out.ac.cells
    obtain ⟨q0, q1, q2, q3, q4⟩ := A1.out.st.cells
    obtain ⟨k0, k1⟩ := A1.out.st.oc wn hwn
    obtain ⟨xa, xc, hv⟩ := HO.out.form
    rw [hv] at k0
    have hrl : (r.length : Int) < 2 := by omega
    clear c2 c3 c5 c6 q0 q1 q2 q3
    have LR := Lib.hid hr
    clear hr
    generalize hrr : r.length = rl at *
    have n1 : ¬ (a = u1.heap.size) := Nat.ne_of_lt (lt_hp A1.out.ac)
    have n2 : ¬ (A.p = u1.heap.size) := Nat.ne_of_lt A1.out.st.lt.1
    have INS : Hid (∀ q, Calls Try.prog 48 #[.slice xa rl xc, .int .i64 0, .slice (some ⟨u1.heap.size, 0, none⟩) 1 1] ((u1.drewN q).alloc (.cells #[.int .i64 m] 3)) (InsOf B (.slice xa rl xc) m r ((u1.drewN q).alloc (.cells #[.int .i64 m] 3)))) := Lib.hid (fun q => by
      have hal := bl_al (Below.refl _ (u1.drewN q)) (.cells #[.int .i64 m] 3)
      refine ins_any B u1.heap.size _ m r (by rw [hrr]; exact LR.out) _ (by have := HS.out; simp; omega) ?_ (heap_alloc_new _ _) (fun hm => ?_)
      · rw [← hv]
        exact HO.out.keep (((Tw.refl [] u1).dn q).trans (Tw.of (S := []) hal)) (by simp)
      · rw [← hv] at hm
        obtain ⟨_, cur, hc⟩ := HO.out.blk _ hm
        have := lt_hp hc
        omega)
    have A2 : Hid (∀ w3 q, Tw (vblk (.slice xa rl xc)) ((u1.drewN q).alloc (.cells #[.int .i64 m] 3)) w3 → Af a A nv nb (upf hd m false) ow l s wn true 0 m tp bl (vblk (ow wn)) w w3) := Lib.hid (fun w3 q t => by
      rw [← hv] at t
      refine ((A1.out.dn q).up (bl_al (Below.refl _ (u1.drewN q)) (.cells #[.int .i64 m] 3))).aside t (fun i hi => ⟨hi, hoa i hi⟩))
    have HF : Hid (∀ w3 q, Tw (vblk (.slice xa rl xc)) ((u1.drewN q).alloc (.cells #[.int .i64 m] 3)) w3 → w.heap.size ≤ w3.heap.size) := Lib.hid (fun w3 q t => by have h1 := t.size; have h2 := HS.out; simp at h1; omega)
    clear hrr
    go_wp2_with fail
    go_quiet (fail)
    go_wp2_with fail
    go_region_held3 (fun w' => w'.cell? ⟨A.p, 4, none⟩ = some (.slice (some ⟨A.bo, 0, none⟩) A.k A.k) ∧ w'.cell? ⟨a, 1, none⟩ = some (.int .i64 wn) ∧ w'.cell? ⟨a, 4, none⟩ = some (.int .i64 m)) (first | exact ⟨q4, c1, c4⟩ | exact ⟨q4', c1', c4'⟩ | (refine ⟨?_, ?_, ?_⟩ <;> simp [go_sem, *]; done) | go_keep)
      (first | (go_at_call 48; (with_reducible refine (INS.out _).mono ?_); rintro e w3 ⟨v', rfl, h1, h2, h3⟩; have A3 := Lib.hid (A2.out _ _ h2); have H1 := Lib.hid h1; have H3 := Lib.hid h3; have H4 := Lib.hid (HF.out _ _ h2); obtain ⟨_, c1', _, _, c4', _, _, _⟩ := A3.out.ac.cells; obtain ⟨_, _, _, _, q4'⟩ := A3.out.st.cells; obtain ⟨k0', k1'⟩ := A3.out.st.oc wn hwn; obtain ⟨ya, yc, rfl⟩ := h1.form; clear h1 h2 h3))
    all_goals
      have A4 := Lib.hid (A3.out.ao wn (.slice ya (r.length + 1) yc))
      obtain ⟨C3, hC3, _⟩ := A3.out.st.own
      have HV := Lib.hid (H1.out.st hC3 (by decide) wn (.slice ya (r.length + 1) yc))
      clear hC3
      generalize (w3.setCell ⟨A.bo, wn, none⟩ (.slice ya (r.length + 1) yc)) = u5 at *
      clear A3 H1 c0 c1 c4 fz q4 k0 k1 c1' c4' q4' k0' k1' INS A2
      obtain ⟨c0, c1, c2, c3, c4, c5, c6, fz⟩ := A4.out.ac.cells
      clear c0 c1 c2 c4 c5 c6
      have HW := Lib.hid (HV.out.st A4.out.ac (by decide) 3 (.int .i64 4))
      have HB : Hid (∀ i, i ∈ vblk (.slice ya (r.length + 1) yc) → i ∈ vblk (ow wn) ∨ w.heap.size ≤ i) := Lib.hid (fun i hi => by
        rw [hv]
        rcases H3.out i hi with h | h
        · exact .inl h
        · refine .inr ?_
          have := HS.out
          simp at h
          omega)
      clear H3 H4 HF HV
      go_wp2
      refine bodyPost_ret (results_none rfl _ _ _) rfl ?_
      exact ⟨rfl, _, HW.out, HB.out, A4.out.a3 4⟩
/-! Step -/
theorem step_take {Q : World → Prop} (r : Bool) (hnx : (nx == 4) = false) (ha : Ac a A wk false nx sl tp bl w) (hT : Calls Try.prog 40 #[.pointer (some ⟨a, 0, none⟩)] w fun e w' => e = .returned (.tuple #[]) ∧ Q w') (hQ : ∀ w', Q w' → ∃ wk gv nx' sl' tp' bl', Ac a A wk gv nx' sl' tp' bl' w' ∧ (nx' == 4) = r) :
    Calls Try.prog 17 #[.pointer (some ⟨a, 0, none⟩)] w fun e w' => e = .returned (.bool r) ∧ Q w' := by
  have O := Lib.hid (over_any false hnx ha)
  have T := Lib.hid hT
  have HQ := Lib.hid hQ
  obtain ⟨c0, c1, c2, c3, c4, c5, c6, fz⟩ := ha.cells
  clear ha hT hQ hnx c0 c1 c3 c4 c5 c6 fz
  go_enter Try.func17, Try.ntmps17
  go_wp2_with fail
  refine O.out.mono ?_; rintro e w1 ⟨rfl, rfl⟩
  clear O
  go_wp2_with fail
  refine T.out.mono ?_; rintro e w2 ⟨rfl, hq⟩
  have HQ2 := Lib.hid hq
  obtain ⟨wk', gv', nx', sl', tp', bl', ha', hr⟩ := HQ.out _ hq
  have O2 := Lib.hid (over_any r hr ha')
  clear T HQ hq ha' hr
  go_wp2_with fail
  refine O2.out.mono ?_; rintro e w3 ⟨rfl, rfl⟩
  clear O2
  go_wp2
  go_ret
  exact ⟨rfl, HQ2.out⟩
theorem step_give {Q : World → Prop} (r : Bool) (hnx : (nx == 4) = false) (ha : Ac a A wk true nx sl tp bl w) (hT : Calls Try.prog 39 #[.pointer (some ⟨a, 0, none⟩)] w fun e w' => e = .returned (.tuple #[]) ∧ Q w') (hQ : ∀ w', Q w' → ∃ wk gv nx' sl' tp' bl', Ac a A wk gv nx' sl' tp' bl' w' ∧ (nx' == 4) = r) :
    Calls Try.prog 17 #[.pointer (some ⟨a, 0, none⟩)] w fun e w' => e = .returned (.bool r) ∧ Q w' := by
  have O := Lib.hid (over_any false hnx ha)
  have T := Lib.hid hT
  have HQ := Lib.hid hQ
  obtain ⟨c0, c1, c2, c3, c4, c5, c6, fz⟩ := ha.cells
  clear ha hT hQ hnx c0 c1 c3 c4 c5 c6 fz
  go_enter Try.func17, Try.ntmps17
  go_wp2_with fail
  refine O.out.mono ?_; rintro e w1 ⟨rfl, rfl⟩
  clear O
  go_wp2_with fail
  refine T.out.mono ?_; rintro e w2 ⟨rfl, hq⟩
  have HQ2 := Lib.hid hq
  obtain ⟨wk', gv', nx', sl', tp', bl', ha', hr⟩ := HQ.out _ hq
  have O2 := Lib.hid (over_any r hr ha')
  clear T HQ hq ha' hr
  go_wp2_with fail
  refine O2.out.mono ?_; rintro e w3 ⟨rfl, rfl⟩
  clear O2
  go_wp2
  go_ret
  exact ⟨rfl, HQ2.out⟩
/-! run -/
theorem run1 {Q : World → Prop} (hnx : (nx == 4) = false) (ha : Ac a A wk gv nx sl tp bl w) (h1 : Calls Try.prog 17 #[.pointer (some ⟨a, 0, none⟩)] w fun e w' => e = .returned (.bool true) ∧ Q w') (hQ : ∀ w', Q w' → ∃ wk gv sl' tp' bl', Ac a A wk gv 4 sl' tp' bl' w') :
    Calls Try.prog 23 #[.pointer (some ⟨a, 0, none⟩)] w fun e w' => e = .returned (.int .i64 1) ∧ Q w' := by
  have O := Lib.hid (over_any false hnx ha)
  have T := Lib.hid h1
  have HQ := Lib.hid hQ
  clear ha h1 hQ hnx
  go_enter Try.func23, Try.ntmps23
  go_wp2_with fail
  refine wp_loop_rounds 2 ?_
  rw [rounds_succ]
  go_wp2_with fail
  refine O.out.mono ?_; rintro e w1 ⟨rfl, rfl⟩
  clear O
  go_wp2_with fail
  refine T.out.mono ?_; rintro e w2 ⟨rfl, hq⟩
  have HQ2 := Lib.hid hq
  obtain ⟨wk', gv', sl', tp', bl', ha'⟩ := HQ.out _ hq
  have O2 := Lib.hid (over_any true rfl ha')
  clear T HQ hq ha'
  go_wp2_with fail
  rw [rounds_succ]
  go_wp2_with fail
  refine O2.out.mono ?_; rintro e w3 ⟨rfl, rfl⟩
  clear O2
  go_wp2
  go_ret
  exact ⟨rfl, HQ2.out⟩
theorem run3 {Q1 Q2 Q3 : World → Prop} (hnx : (nx == 4) = false) (ha : Ac a A wk gv nx sl tp bl w) (h1 : Calls Try.prog 17 #[.pointer (some ⟨a, 0, none⟩)] w fun e w' => e = .returned (.bool false) ∧ Q1 w')
    (h2 : ∀ w', Q1 w' → (∃ wk gv nx sl tp bl, (nx == 4) = false ∧ Ac a A wk gv nx sl tp bl w') ∧ Calls Try.prog 17 #[.pointer (some ⟨a, 0, none⟩)] w' fun e w' => e = .returned (.bool false) ∧ Q2 w')
    (h3 : ∀ w', Q2 w' → (∃ wk gv nx sl tp bl, (nx == 4) = false ∧ Ac a A wk gv nx sl tp bl w') ∧ Calls Try.prog 17 #[.pointer (some ⟨a, 0, none⟩)] w' fun e w' => e = .returned (.bool true) ∧ Q3 w') (hQ : ∀ w', Q3 w' → ∃ wk gv sl' tp' bl', Ac a A wk gv 4 sl' tp' bl' w') :
    Calls Try.prog 23 #[.pointer (some ⟨a, 0, none⟩)] w fun e w' => e = .returned (.int .i64 3) ∧ Q3 w' := by
  have O := Lib.hid (over_any false hnx ha)
  have T1 := Lib.hid h1
  have T2 := Lib.hid h2
  have T3 := Lib.hid h3
  have HQ := Lib.hid hQ
  clear ha h1 h2 h3 hQ hnx
  go_enter Try.func23, Try.ntmps23
  go_wp2_with fail
  refine wp_loop_rounds 4 ?_
  rw [rounds_succ]
  go_wp2_with fail
  refine O.out.mono ?_; rintro e w1 ⟨rfl, rfl⟩
  clear O
  go_wp2_with fail
  refine T1.out.mono ?_; rintro e w2 ⟨rfl, hq⟩
  obtain ⟨⟨wk', gv', nx', sl', tp', bl', hx', ha'⟩, hc⟩ := T2.out _ hq
  have O := Lib.hid (over_any false hx' ha')
  have C := Lib.hid hc
  clear T1 T2 hq ha' hc hx'
  go_wp2_with fail
  rw [rounds_succ]
  go_wp2_with fail
  refine O.out.mono ?_; rintro e w3 ⟨rfl, rfl⟩
  clear O
  go_wp2_with fail
  refine C.out.mono ?_; rintro e w4 ⟨rfl, hq⟩
  clear C
  obtain ⟨⟨wk2, gv2, nx2, sl2, tp2, bl2, hx2, ha2⟩, hc⟩ := T3.out _ hq
  have O := Lib.hid (over_any false hx2 ha2)
  have C := Lib.hid hc
  clear T3 hq ha2 hc hx2
  go_wp2_with fail
  rw [rounds_succ]
  go_wp2_with fail
  refine O.out.mono ?_; rintro e w5 ⟨rfl, rfl⟩
  clear O
  go_wp2_with fail
  refine C.out.mono ?_; rintro e w6 ⟨rfl, hq⟩
  clear C
  have HQ2 := Lib.hid hq
  obtain ⟨wk3, gv3, sl3, tp3, bl3, ha3⟩ := HQ.out _ hq
  have O2 := Lib.hid (over_any true rfl ha3)
  clear HQ hq ha3
  go_wp2_with fail
  rw [rounds_succ]
  go_wp2_with fail
  refine O2.out.mono ?_; rintro e w3 ⟨rfl, rfl⟩
  clear O2
  go_wp2
  go_ret
  exact ⟨rfl, HQ2.out⟩
end
end Go.Proofs.Ytaihmkflhapjeaa

/-
  A Give that goes to the stack; a Take out of one's own list.
-/
import Derived.Test.YtaihmkflhapjeaaPoE
import Derived.Test.YtaihmkflhapjeaaPoF
namespace Go.Proofs.Ytaihmkflhapjeaa
open Go.RowKit Go.MuLone
set_option linter.unusedVariables false
section
variable {A : Ad} {nv : Nat → Value} {nb : Nat → Int} {hd : Nat → Bool} {ow : Nat → Value} {l : List Int} {s : Int} {w w1 : World} {a : Nat} {wk nx sl tp bl : Int} {gv : Bool} {R : List Nat}
set_option maxHeartbeats 8000000 in
theorem give_full (B wn m : Nat) (r : List Int) (hm : sl = m) (hm2 : m < A.n) (hh : hd m = true) (hr : 2 ≤ r.length) (hwk : wk = wn) (hwn : wn < A.k) (s0 : 0 ≤ s) (s1 : s ≤ 1000000) (h : Po A nv nb hd ow l s w) (ha : Ac a A wk true 0 sl tp bl w) (ho : Ol B (ow wn) r w) :
    Calls Try.prog 39 #[.pointer (some ⟨a, 0, none⟩)] w fun e w' => e = .returned (.tuple #[]) ∧ Af a A nv nb (upf hd m false) ow l (s + 1) wk true 2 sl (nth l A.base) bl R w w' := by
  subst hm hwk
  obtain ⟨c0, c1, c2, c3, c4, c5, c6, fz⟩ := ha.cells
  obtain ⟨q0, q1, q2, q3, q4⟩ := h.cells
  obtain ⟨k0, k1⟩ := h.hc m hm2
  rw [hh] at k0
  have n2 := h.n2
  have kk2 := h.k2
  have e1 : a ≠ A.bh := (ha.ne h).h
  have e2 : A.p ≠ A.bh := h.ne.ph
  have A0 := Lib.hid (Af.mk0 (R := R) h ha)
  have i1 : (m : Int) < (A.n : Int) := by omega
  have i2 : (wn : Int) < (A.k : Int) := by omega
  have hrl : ¬ (r.length : Int) < 2 := by omega
  obtain ⟨xa, xc, hv⟩ := ho.form
  have RT := Lib.hid (fun W (hW : Po A nv nb (upf hd m false) ow l s W) (hA : Ac a A wn true 0 m tp bl W) => readTop_any (R := R) s0 s1 hW hA)
  clear h ha c2 c5 c6 q0 q1 q2 ho hr s0 s1
  generalize r.length = rl at *
  generalize nth l A.base = x at *
  go_enter Try.func39, Try.ntmps39
  go_wp2_with fail
  go_quiet (fail)
  go_wp2_with fail
  go_region_held3 (fun w' => w'.cell? ⟨A.p, 3, none⟩ = some (.slice (some ⟨A.bh, 0, none⟩) A.n A.n) ∧ w'.cell? ⟨a, 4, none⟩ = some (.int .i64 m)) (first | exact ⟨q3, c4⟩ | (refine ⟨?_, ?_⟩ <;> simp [go_sem, *])) (first | fail)
  all_goals
    have A1 := Lib.hid ((A0.out.dn (nq + 1)).ah m false)
    generalize ((w.drewN (nq + 1)).setCell ⟨A.bh, m, none⟩ (.bool false)) = u1 at *
    clear A0 c0 c1 c3 c4 fz q3 q4 k0 k1
    obtain ⟨c0, c1, c2, c3, c4, c5, c6, fz⟩ := A1.out.ac.cells
    obtain ⟨q0, q1, q2, q3, q4⟩ := A1.out.st.cells
    obtain ⟨k0, k1⟩ := A1.out.st.oc wn hwn
    rw [hv] at k0
    clear c2 c3 c4 c5 c6 q0 q1 q2 q3
    go_wp2_with fail
    go_quiet (fail)
    go_wp2_with fail
    refine (RT.out _ (A1.out.dn _).st (A1.out.dn _).ac).mono ?_; rintro e w3 ⟨rfl, f⟩
    have A2 := Lib.hid ((A1.out.dn _).tr f)
    clear f RT A1 c0 c1 fz q4 k0 k1
    go_wp2
    go_end0
    exact ⟨rfl, A2.out⟩
set_option maxHeartbeats 8000000 in
theorem give_link (m : Nat) (hm : sl = m) (hm2 : m < A.n) (t0 : 0 ≤ tp) (t1 : tp ≤ 4611686018427387903) (s0 : 0 ≤ s) (s1 : s ≤ 1000000) (h : Po A nv nb hd ow l s w) (ha : Ac a A wk true 2 sl tp bl w) :
    Calls Try.prog 39 #[.pointer (some ⟨a, 0, none⟩)] w fun e w' => e = .returned (.tuple #[]) ∧ Af a A nv nb hd ow (l.set (A.base + 1 + m) (tpl tp)) (s + 1) wk true 3 sl tp bl R w w' := by
  subst hm
  obtain ⟨c0, c1, c2, c3, c4, c5, c6, fz⟩ := ha.cells
  obtain ⟨q0, q1, q2, q3, q4⟩ := h.cells
  have hl := h.len
  have hl2 := h.len2
  have n2 := h.n2
  have UN : Hid (∀ W, Calls Try.prog 36 #[.int .i64 tp] W fun e w' => e = .returned (.tuple #[.int .i64 (tp / 4294967296 % 1073741824), .int .i64 (tpl tp)]) ∧ W = w') := Lib.hid (fun W => unpack_any tp t0 t1 W)
  have G := Lib.hid (fun W (hW : Po A nv nb hd ow l s W) => setP (A.base + 1 + m) ((A.base : Int) + 1 + m) (tpl tp) (by omega) (by omega) s0 s1 hW)
  have LK := Lib.hid (fun W (hW : Po A nv nb hd ow l s W) => link_any (m : Int) _ _ _ _ _ _ _ _ W hW.box (by omega) (by omega) (by omega) (by omega))
  have A0 := Lib.hid (Af.mk0 (R := R) h ha).dr
  clear h ha s0 s1 c1 c2 c6 q1 q2 q3 q4 hl hl2 n2 t0 t1
  generalize tpl tp = x at *
  generalize l.set (A.base + 1 + m) x = l2 at *
  generalize (A.base : Int) + 1 + m = ix at *
  go_enter Try.func39, Try.ntmps39
  go_wp2_with fail
  refine (UN.out _).mono ?_; rintro e w4 ⟨rfl, rfl⟩
  clear UN
  go_wp2_with fail
  go_region_held3 (fun w' => w'.cell? ⟨A.p, 0, none⟩ = some (.pointer (some ⟨A.g, 0, none⟩)) ∧ w'.cell? ⟨a, 4, none⟩ = some (.int .i64 m)) (first | exact ⟨q0, c4⟩ | (refine ⟨?_, ?_⟩ <;> simp [go_sem, *]))
    (first
      | (go_at_call 31; (with_reducible refine (LK.out _ A0.out.st).mono ?_); rintro e w1 ⟨rfl, rfl⟩)
      | (go_at_call 30; (with_reducible refine (G.out _ A0.out.st).mono ?_); rintro e w1 ⟨rfl, f1, f2⟩; have A1 := Lib.hid (A0.out.mem f1 f2); obtain ⟨q0, q1, q2, q3, q4⟩ := f1.cells; obtain ⟨c0, c1, c2, c3, c4, c5, c6, fz⟩ := A1.out.ac.cells; clear f1 f2 c1 c2 c5 q1 q2 q3 q4))
  all_goals
    clear G LK
    go_wp2
    go_end0
    exact ⟨rfl, (A1.out.a3 3).st, (A1.out.a3 3).ac, ⟨(A1.out.a3 3).tw.os, (A1.out.a3 3).tw.tape, (A1.out.a3 3).tw.output, (A1.out.a3 3).tw.size, (A1.out.a3 3).tw.block⟩⟩
set_option maxHeartbeats 8000000 in
theorem give_swap (m : Nat) (dn : Bool) (hm : sl = m) (hdn : decide (nth l A.base = tp) = dn) (t0 : 0 ≤ tp) (t1 : tp ≤ 4611686018427387903) (s0 : 0 ≤ s) (s1 : s ≤ 1000000) (h : Po A nv nb hd ow l s w) (ha : Ac a A wk true 3 sl tp bl w) :
    Calls Try.prog 39 #[.pointer (some ⟨a, 0, none⟩)] w fun e w' => e = .returned (.tuple #[]) ∧ Af a A nv nb hd ow (swt l A.base tp (upv tp sl)) (s + 1) wk true (if dn then 4 else 1) sl tp bl R w w' := by
  subst hm
  obtain ⟨c0, c1, c2, c3, c4, c5, c6, fz⟩ := ha.cells
  have SW := Lib.hid (swapTop_any (R := R) (m : Int) dn hdn t0 t1 s0 s1 h ha)
  generalize swt l A.base tp (upv tp (m : Int)) = l2 at *
  clear h ha s0 s1 c1 c2 c5 c6 hdn t0 t1
  go_enter Try.func39, Try.ntmps39
  go_wp2_with fail
  refine SW.out.mono ?_; rintro e w3 ⟨rfl, f⟩
  have F := Lib.hid f
  clear SW c0 c3 c4 fz
  obtain ⟨c0, c1, c2, c3, c4, c5, c6, fz⟩ := f.ac.cells
  clear f c0 c1 c2 c4 c5 c6
  cases dn
  · go_wp2
    go_end0
    exact ⟨rfl, F.out⟩
  · go_wp2
    go_end0
    exact ⟨rfl, F.out.a3 4⟩
/-- a Take out of one's own list: one Step -/
theorem run_own (B wn m : Nat) (x : Int) (r : List Int) (hx : x = m) (hm : m < A.n) (hwk : wk = wn) (hwn : wn < A.k) (h : Po A nv nb hd ow l s w) (ha : Ac a A wk false 1 sl tp bl w) (ho : Ol B (ow wn) (x :: r) w) (hoa : ∀ i, i ∈ vblk (ow wn) → i ≠ a ∧ i ≠ A.p ∧ i ≠ A.g ∧ i ≠ A.b ∧ i ≠ A.bn ∧ i ≠ A.bh ∧ i ≠ A.bo) :
    Calls Try.prog 23 #[.pointer (some ⟨a, 0, none⟩)] w fun e w' => e = .returned (.int .i64 1) ∧ ∃ v', Ol B v' r w' ∧ (∀ i, i ∈ vblk v' → i ∈ vblk (ow wn)) ∧ Af a A nv nb (upf hd m true) (upf ow wn v') l s wk false 4 x tp bl [] w w' := by
  refine run1 (a := a) (A := A) rfl ha ?_ (fun W hW => ?_)
  · refine step_take true rfl ha ?_ (fun W hW => ?_)
    · refine (take_own (R := []) B wn m x r hx hm hwk hwn h ha ho).mono ?_
      rintro e W ⟨rfl, v', h1, h2, h3⟩
      refine ⟨rfl, v', h1.keep h3.tw (fun i hi hv => ?_), h2, h3⟩
      have := hoa i (h2 i hv)
      simp at hi
      omega
    · obtain ⟨v', _, _, hA⟩ := hW
      exact ⟨_, _, _, _, _, _, hA.ac, rfl⟩
  · obtain ⟨v', _, _, hA⟩ := hW
    exact ⟨_, _, _, _, _, hA.ac⟩
/-- a Give to the stack: three Steps -/
theorem run_put (B wn m : Nat) (r : List Int) (T : Int) (hT : nth l A.base = T) (t0 : 0 ≤ T) (t1 : T ≤ 4611686018427387903) (hm : sl = m) (hm2 : m < A.n) (hh : hd m = true) (hr : 2 ≤ r.length) (hwk : wk = wn) (hwn : wn < A.k) (s0 : 0 ≤ s) (s1 : s ≤ 100000) (h : Po A nv nb hd ow l s w) (ha : Ac a A wk true 0 sl tp bl w) (ho : Ol B (ow wn) r w) :
    Calls Try.prog 23 #[.pointer (some ⟨a, 0, none⟩)] w fun e w' => e = .returned (.int .i64 3) ∧ Af a A nv nb (upf hd m false) ow ((l.set (A.base + 1 + m) (tpl T)).set A.base (upv T sl)) (s + 1 + 1 + 1) wk true 4 sl T bl R w w' := by
  have hl := h.len
  refine run3 (a := a) (A := A) (Q1 := fun W => Af a A nv nb (upf hd m false) ow l (s + 1) wk true 2 sl T bl R w W) (Q2 := fun W => Af a A nv nb (upf hd m false) ow (l.set (A.base + 1 + m) (tpl T)) (s + 1 + 1) wk true 3 sl T bl R w W) rfl ha ?_ ?_ ?_ ?_
  · refine step_give false rfl ha ?_ (fun W hW => ⟨_, _, _, _, _, _, hW.ac, rfl⟩)
    have := give_full (R := R) B wn m r hm hm2 hh hr hwk hwn s0 (by omega) h ha ho
    rw [hT] at this
    exact this
  · intro W hW
    refine ⟨⟨_, _, _, _, _, _, rfl, hW.ac⟩, step_give false rfl hW.ac ?_ (fun W hW => ⟨_, _, _, _, _, _, hW.ac, rfl⟩)⟩
    refine (give_link (R := R) m hm hm2 t0 t1 (by omega) (by omega) hW.st hW.ac).mono ?_
    rintro e W2 ⟨rfl, f⟩
    exact ⟨rfl, hW.tr f⟩
  · intro W hW
    refine ⟨⟨_, _, _, _, _, _, rfl, hW.ac⟩, step_give true rfl hW.ac ?_ (fun W hW => ⟨_, _, _, _, _, _, hW.ac, rfl⟩)⟩
    have hT2 : nth (l.set (A.base + 1 + m) (tpl T)) A.base = T := by rw [nth_set _ _ _ _ (by omega), if_neg (by omega)]; exact hT
    have := give_swap (R := R) m true hm (decide_eq_true hT2) t0 t1 (by omega) (by omega) hW.st hW.ac
    rw [swt_yes _ _ _ _ hT2] at this
    refine this.mono ?_
    rintro e W2 ⟨rfl, f⟩
    exact ⟨rfl, hW.tr f⟩
  · intro W hW
    exact ⟨_, _, _, _, _, hW.ac⟩
end
theorem upv_bd (T x : Int) : 0 ≤ upv T x ∧ upv T x ≤ 4611686018427387903 := by
  unfold upv
  have h := pl_bd x
  rw [pk_eq]
  omega
theorem tpl_upv (T x : Int) (h0 : -1 ≤ x) (h1 : x ≤ 2147483646) : tpl (upv T x) = x := by
  have e : pl x = x := by
    by_cases h : 0 ≤ x
    · exact pl_in x ⟨h, h1⟩
    · rw [pl_out x (by omega)]; omega
  unfold tpl upv
  rw [pk_eq, e]
  omega
end Go.Proofs.Ytaihmkflhapjeaa

/-
  What readTop, swapTop and taken do.
-/
import Derived.Test.YtaihmkflhapjeaaPoA
import Derived.Deep.Cut
namespace Go.Proofs.Ytaihmkflhapjeaa
open Go.RowKit Go.MuLone
set_option linter.unusedVariables false
structure Af (a : Nat) (A : Ad) (nv : Nat → Value) (nb : Nat → Int) (hd : Nat → Bool) (ow : Nat → Value) (l : List Int) (s : Int) (wk : Int) (gv : Bool) (nx sl tp bl : Int) (R : List Nat) (w w1 : World) : Prop where
  st : Po A nv nb hd ow l s w1
  ac : Ac a A wk gv nx sl tp bl w1
  tw : Tw (A.g :: A.b :: A.bh :: A.bo :: a :: R) w w1
section
variable {A : Ad} {nv : Nat → Value} {nb : Nat → Int} {hd : Nat → Bool} {ow : Nat → Value} {l : List Int} {s : Int} {w w1 : World} {a : Nat} {wk nx sl tp bl : Int} {gv : Bool} {R : List Nat}
theorem Af.ne (h : Af a A nv nb hd ow l s wk gv nx sl tp bl R w w1) : Aa a A := h.ac.ne h.st
theorem Af.a3 (h : Af a A nv nb hd ow l s wk gv nx sl tp bl R w w1) (y : Int) : Af a A nv nb hd ow l s wk gv y sl tp bl R w (w1.setCell ⟨a, 3, none⟩ (.int .i64 y)) := ⟨h.st.sa h.ne _ _, h.ac.s3 y, h.tw.st a (.inl (by simp)) _ _⟩
theorem Af.a4 (h : Af a A nv nb hd ow l s wk gv nx sl tp bl R w w1) (y : Int) : Af a A nv nb hd ow l s wk gv nx y tp bl R w (w1.setCell ⟨a, 4, none⟩ (.int .i64 y)) := ⟨h.st.sa h.ne _ _, h.ac.s4 y, h.tw.st a (.inl (by simp)) _ _⟩
theorem Af.a5 (h : Af a A nv nb hd ow l s wk gv nx sl tp bl R w w1) (y : Int) : Af a A nv nb hd ow l s wk gv nx sl y bl R w (w1.setCell ⟨a, 5, none⟩ (.int .i64 y)) := ⟨h.st.sa h.ne _ _, h.ac.s5 y, h.tw.st a (.inl (by simp)) _ _⟩
theorem Af.a6 (h : Af a A nv nb hd ow l s wk gv nx sl tp bl R w w1) (y : Int) : Af a A nv nb hd ow l s wk gv nx sl tp y R w (w1.setCell ⟨a, 6, none⟩ (.int .i64 y)) := ⟨h.st.sa h.ne _ _, h.ac.s6 y, h.tw.st a (.inl (by simp)) _ _⟩
theorem Af.ah (h : Af a A nv nb hd ow l s wk gv nx sl tp bl R w w1) (j : Nat) (v : Bool) : Af a A nv nb (upf hd j v) ow l s wk gv nx sl tp bl R w (w1.setCell ⟨A.bh, j, none⟩ (.bool v)) := ⟨h.st.sh j v, h.ac.keep ((Tw.refl [A.bh] w1).st A.bh (.inl (by simp)) j _) (by simp; exact h.ne.h), h.tw.st A.bh (.inl (by simp)) _ _⟩
theorem Af.ao (h : Af a A nv nb hd ow l s wk gv nx sl tp bl R w w1) (j : Nat) (v : Value) : Af a A nv nb hd (upf ow j v) l s wk gv nx sl tp bl R w (w1.setCell ⟨A.bo, j, none⟩ v) := ⟨h.st.so j v, h.ac.keep ((Tw.refl [A.bo] w1).st A.bo (.inl (by simp)) j _) (by simp; exact h.ne.o), h.tw.st A.bo (.inl (by simp)) _ _⟩
theorem Af.dr (h : Af a A nv nb hd ow l s wk gv nx sl tp bl R w w1) : Af a A nv nb hd ow l s wk gv nx sl tp bl R w w1.drew := ⟨h.st.dr, h.ac, h.tw.dr⟩
theorem Af.mk0 (h : Po A nv nb hd ow l s w) (ha : Ac a A wk gv nx sl tp bl w) : Af a A nv nb hd ow l s wk gv nx sl tp bl R w w := ⟨h, ha, Tw.refl _ _⟩
theorem Af.tr {hd0 : Nat → Bool} {ow0 : Nat → Value} {l0 : List Int} {s0 nx0 sl0 tp0 bl0 : Int} {w0 : World} (h : Af a A nv nb hd0 ow0 l0 s0 wk gv nx0 sl0 tp0 bl0 R w0 w) (k : Af a A nv nb hd ow l s wk gv nx sl tp bl R w w1) : Af a A nv nb hd ow l s wk gv nx sl tp bl R w0 w1 := ⟨k.st, k.ac, h.tw.trans k.tw⟩
/-- the memory was used -/
theorem Af.mem {l1 : List Int} {s1 : Int} {w2 : World} (h : Af a A nv nb hd ow l s wk gv nx sl tp bl R w w1) (k : Po A nv nb hd ow l1 s1 w2) (t : Tw [A.g, A.b] w1 w2) : Af a A nv nb hd ow l1 s1 wk gv nx sl tp bl R w w2 :=
  ⟨k, h.ac.keep t (by simp; exact ⟨h.ne.g, h.ne.b⟩), h.tw.trans (t.mono (by simp))⟩
theorem getP (ix : Nat) (i : Int) (hi : i = ix) (hx : ix < l.length) (s0 : 0 ≤ s) (s1 : s ≤ 1000000) (h : Po A nv nb hd ow l s w) :
    Calls Try.prog 52 #[.pointer (some ⟨A.g, 0, none⟩), .int .i64 i] w fun e w' => e = .returned (.tuple #[.int .i64 (nth l ix), .int .i64 0]) ∧ Po A nv nb hd ow l (s + 1) w' ∧ Tw [A.g, A.b] w w' := by
  obtain ⟨k, c, o, m, d, hm⟩ := h.mem
  refine (get_ok A.g A.b l s k c o m d i (nth l ix) ix hi hx rfl s0 s1 w hm).mono ?_
  intro e w1 hd
  rw [set_self] at hd
  exact h.did hd rfl
theorem setP (ix : Nat) (i y : Int) (hi : i = ix) (hx : ix < l.length) (s0 : 0 ≤ s) (s1 : s ≤ 1000000) (h : Po A nv nb hd ow l s w) :
    Calls Try.prog 30 #[.pointer (some ⟨A.g, 0, none⟩), .int .i64 i, .int .i64 y] w fun e w' => e = .returned (.int .i64 0) ∧ Po A nv nb hd ow (l.set ix y) (s + 1) w' ∧ Tw [A.g, A.b] w w' := by
  obtain ⟨k, c, o, m, d, hm⟩ := h.mem
  refine (set_ok A.g A.b l s k c o m d i (nth l ix) y ix hi hx rfl s0 s1 w hm).mono ?_
  intro e w1 hd
  exact h.did hd (by simp)
theorem peekP (ix : Nat) (i : Int) (hi : i = ix) (hx : ix < l.length) (h : Po A nv nb hd ow l s w) :
    Calls Try.prog 37 #[.pointer (some ⟨A.g, 0, none⟩), .int .i64 i] w fun e w' => e = .returned (.int .i64 (nth l ix)) ∧ Po A nv nb hd ow l s w' ∧ Tw [A.g, A.b] w w' := by
  obtain ⟨k, c, o, m, d, hm⟩ := h.mem
  refine (peek_ok A.g A.b l s k c o m d i (nth l ix) ix hi hx rfl w hm).mono ?_
  intro e w1 hd
  exact h.did hd rfl
/-- what a swap of the top leaves -/
def swt (l : List Int) (b : Nat) (tp y : Int) : List Int := if nth l b = tp then l.set b y else l
theorem swt_yes (l : List Int) (b : Nat) (tp y : Int) (h : nth l b = tp) : swt l b tp y = l.set b y := if_pos h
theorem swt_no (l : List Int) (b : Nat) (tp y : Int) (h : ¬ nth l b = tp) : swt l b tp y = l := if_neg h
theorem casP (tp y : Int) (dn : Bool) (hdn : decide (nth l A.base = tp) = dn) (s0 : 0 ≤ s) (s1 : s ≤ 1000000) (h : Po A nv nb hd ow l s w) :
    Calls Try.prog 57 #[.pointer (some ⟨A.g, 0, none⟩), .int .i64 A.base, .int .i64 tp, .int .i64 y] w fun e w' => e = .returned (.tuple #[.bool dn, .int .i64 0]) ∧ Po A nv nb hd ow (swt l A.base tp y) (s + 1) w' ∧ Tw [A.g, A.b] w w' := by
  have h' := h
  have hl := h.len
  obtain ⟨k, c, o, m, d, hm⟩ := h.mem
  by_cases e : nth l A.base = tp
  · have hd2 : dn = true := by rw [← hdn]; exact decide_eq_true e
    refine (cas_ok A.g A.b l s k c o m d A.base (nth l A.base) tp y y dn A.base rfl (by omega) rfl (.inl ⟨e, rfl, hd2⟩) s0 s1 w hm).mono ?_
    intro e2 w1 hdd
    rw [swt_yes l A.base tp y e]
    exact h'.did hdd (by simp)
  · have hd2 : dn = false := by rw [← hdn]; exact decide_eq_false e
    refine (cas_ok A.g A.b l s k c o m d A.base (nth l A.base) tp y (nth l A.base) dn A.base rfl (by omega) rfl (.inr ⟨e, rfl, hd2⟩) s0 s1 w hm).mono ?_
    intro e2 w1 hdd
    rw [swt_no l A.base tp y e]
    rw [set_self] at hdd
    exact h'.did hdd rfl
set_option maxHeartbeats 4000000 in
theorem readTop_any (s0 : 0 ≤ s) (s1 : s ≤ 1000000) (h : Po A nv nb hd ow l s w) (ha : Ac a A wk gv nx sl tp bl w) :
    Calls Try.prog 49 #[.pointer (some ⟨a, 0, none⟩)] w fun e w' => e = .returned (.tuple #[]) ∧ Af a A nv nb hd ow l (s + 1) wk gv 2 sl (nth l A.base) bl R w w' := by
  obtain ⟨c0, c1, c2, c3, c4, c5, c6, fz⟩ := ha.cells
  obtain ⟨q0, q1, q2, q3, q4⟩ := h.cells
  have hl := h.len
  have G := Lib.hid (fun W (hW : Po A nv nb hd ow l s W) => getP A.base A.base rfl (by omega) s0 s1 hW)
  have A0 := Lib.hid (Af.mk0 (R := R) h ha).dr
  clear h ha s0 s1 c1 c2 c3 c4 c6 q2 q3 q4 hl
  generalize nth l A.base = x at *
  go_enter Try.func49, Try.ntmps49
  go_wp2_with fail
  go_region_held3 (fun w' => w'.cell? ⟨a, 0, none⟩ = some (.pointer (some ⟨A.p, 0, none⟩)) ∧ w'.cell? ⟨A.p, 0, none⟩ = some (.pointer (some ⟨A.g, 0, none⟩)) ∧ w'.cell? ⟨A.p, 1, none⟩ = some (.int .i64 A.base)) (first | exact ⟨c0, q0, q1⟩ | (refine ⟨?_, ?_, ?_⟩ <;> simp [go_sem, *]))
    (first | (go_at_call 52; (with_reducible refine (G.out _ A0.out.st).mono ?_); rintro e w1 ⟨rfl, f1, f2⟩; have A1 := Lib.hid (A0.out.mem f1 f2); obtain ⟨q0, q1, q2, q3, q4⟩ := f1.cells; obtain ⟨c0, c1, c2, c3, c4, c5, c6, fz⟩ := A1.out.ac.cells; clear f1 f2 c1 c2 c4 c6 q2 q3 q4))
  all_goals
    clear G
    have A2 := Lib.hid (A1.out.a5 x)
    generalize (w1.setCell ⟨a, 5, none⟩ (.int .i64 x)) = u1 at *
    clear A1 c0 c3 c5 fz q0 q1
    obtain ⟨c0, c1, c2, c3, c4, c5, c6, fz⟩ := A2.out.ac.cells
    clear c0 c1 c2 c4 c5 c6
    go_wp2
    go_end0
    exact ⟨rfl, A2.out.st.sa A2.out.ne _ _, A2.out.ac.s3 2, ⟨(A2.out.a3 2).tw.os, (A2.out.a3 2).tw.tape, (A2.out.a3 2).tw.output, (A2.out.a3 2).tw.size, (A2.out.a3 2).tw.block⟩⟩
/-- the next version, with another place -/
def upv (tp x : Int) : Int := pk (tp / 4294967296 % 1073741824 + 1) x
set_option maxHeartbeats 4000000 in
theorem swapTop_any (x : Int) (dn : Bool) (hdn : decide (nth l A.base = tp) = dn) (t0 : 0 ≤ tp) (t1 : tp ≤ 4611686018427387903) (s0 : 0 ≤ s) (s1 : s ≤ 1000000) (h : Po A nv nb hd ow l s w) (ha : Ac a A wk gv nx sl tp bl w) :
    Calls Try.prog 50 #[.pointer (some ⟨a, 0, none⟩), .int .i64 x] w fun e w' => e = .returned (.bool dn) ∧ Af a A nv nb hd ow (swt l A.base tp (upv tp x)) (s + 1) wk gv 1 sl tp bl R w w' := by
  obtain ⟨c0, c1, c2, c3, c4, c5, c6, fz⟩ := ha.cells
  obtain ⟨q0, q1, q2, q3, q4⟩ := h.cells
  have U : Hid (∀ W, Calls Try.prog 58 #[.int .i64 tp, .int .i64 x] W fun e w' => e = .returned (.int .i64 (upv tp x)) ∧ W = w') := Lib.hid (fun W => up_any tp x t0 t1 W)
  generalize upv tp x = y at *
  have G := Lib.hid (fun W (hW : Po A nv nb hd ow l s W) => casP tp y dn hdn s0 s1 hW)
  have A0 := Lib.hid (Af.mk0 (R := R) h ha).dr
  clear h ha s0 s1 c1 c2 c3 c4 c6 q2 q3 q4 hdn t0 t1
  generalize swt l A.base tp y = l2 at *
  go_enter Try.func50, Try.ntmps50
  go_wp2_with fail
  go_region_held3 (fun w' => w'.cell? ⟨a, 0, none⟩ = some (.pointer (some ⟨A.p, 0, none⟩)) ∧ w'.cell? ⟨A.p, 0, none⟩ = some (.pointer (some ⟨A.g, 0, none⟩)) ∧ w'.cell? ⟨A.p, 1, none⟩ = some (.int .i64 A.base) ∧ w'.cell? ⟨a, 5, none⟩ = some (.int .i64 tp)) (first | exact ⟨c0, q0, q1, c5⟩ | (refine ⟨?_, ?_, ?_, ?_⟩ <;> simp [go_sem, *]))
    (first
      | (go_at_call 58; (with_reducible refine (U.out _).mono ?_); rintro e w1 ⟨rfl, rfl⟩)
      | (go_at_call 57; (with_reducible refine (G.out _ A0.out.st).mono ?_); rintro e w1 ⟨rfl, f1, f2⟩; have A1 := Lib.hid (A0.out.mem f1 f2); obtain ⟨q0, q1, q2, q3, q4⟩ := f1.cells; obtain ⟨c0, c1, c2, c3, c4, c5, c6, fz⟩ := A1.out.ac.cells; clear f1 f2 c1 c2 c4 c6 q2 q3 q4))
  all_goals
    clear G U
    go_wp2
    go_ret
    exact ⟨rfl, (A1.out.a3 1).st, (A1.out.a3 1).ac, ⟨(A1.out.a3 1).tw.os, (A1.out.a3 1).tw.tape, (A1.out.a3 1).tw.output, (A1.out.a3 1).tw.size, (A1.out.a3 1).tw.block⟩⟩
set_option maxHeartbeats 4000000 in
theorem taken_any (m : Nat) (hm : sl = m) (hm2 : m < A.n) (h : Po A nv nb hd ow l s w) (ha : Ac a A wk gv nx sl tp bl w) :
    Calls Try.prog 51 #[.pointer (some ⟨a, 0, none⟩)] w fun e w' => e = .returned (.tuple #[]) ∧ Af a A nv nb (upf hd m true) ow l s wk gv 4 sl tp bl R w w' := by
  subst hm
  obtain ⟨c0, c1, c2, c3, c4, c5, c6, fz⟩ := ha.cells
  obtain ⟨q0, q1, q2, q3, q4⟩ := h.cells
  obtain ⟨k0, k1⟩ := h.hc m hm2
  have hne := ha.ne h
  have n2 := h.n2
  have e1 : a ≠ A.bh := hne.h
  have e2 : A.p ≠ A.bh := h.ne.ph
  have A0 := Lib.hid (Af.mk0 (R := R) h ha)
  have i1 : (m : Int) < (A.n : Int) := by omega
  clear h ha c1 c2 c5 c6 q0 q1 q2 q4 hne
  go_enter Try.func51, Try.ntmps51
  go_wp2_with fail
  go_region_held3 (fun w' => w'.cell? ⟨a, 0, none⟩ = some (.pointer (some ⟨A.p, 0, none⟩)) ∧ w'.cell? ⟨A.p, 3, none⟩ = some (.slice (some ⟨A.bh, 0, none⟩) A.n A.n) ∧ w'.cell? ⟨a, 4, none⟩ = some (.int .i64 m)) (first | exact ⟨c0, q3, c4⟩ | (refine ⟨?_, ?_, ?_⟩ <;> simp [go_sem, *])) (first | fail)
  all_goals
    have A1 := Lib.hid ((A0.out.ah m true).dr)
    generalize (w.setCell ⟨A.bh, m, none⟩ (.bool true)).drew = u1 at *
    clear A0 c0 c4 c3 fz q3 k0 k1
    obtain ⟨c0, c1, c2, c3, c4, c5, c6, fz⟩ := A1.out.ac.cells
    clear c0 c1 c2 c4 c5 c6
    go_wp2
    go_end0
    exact ⟨rfl, A1.out.a3 4⟩
/-! take -/
/-- the list without its first -/
theorem Ol.tail {B : Nat} {v : Value} {x : Int} {r : List Int} (h : Ol B v (x :: r) w) : ∃ g off off' cap, v = .slice (some ⟨g, off, none⟩) (r.length + 1) (cap + 1) ∧ cap + 1 ≤ 9223372036854775807 ∧ r.length ≤ cap ∧ w.cell? ⟨g, off, none⟩ = some (.int .i64 x) ∧ (if cap = 0 then (some ⟨g, off, none⟩ : Option Addr) else some ⟨g, off + 1, none⟩) = some ⟨g, off', none⟩ ∧ Ol B (.slice (some ⟨g, off', none⟩) r.length cap) r w := by
  rcases h with ⟨_, h⟩ | ⟨g, off, cap, cur, rfl, h2, h3, h4, h5, h6, h7⟩
  · cases h
  · have hc : 1 ≤ cap := by simp at h3; omega
    obtain ⟨c, rfl⟩ : ∃ c, cap = c + 1 := ⟨cap - 1, by omega⟩
    have hcx : w.cell? ⟨g, off, none⟩ = some (.int .i64 x) := by
      have := h7 0 (by simp)
      rw [show nth (x :: r) 0 = x by unfold nth; rfl] at this
      exact this
    by_cases hc0 : c = 0
    · have hr : r.length = 0 := by simp at h3; omega
      refine ⟨g, off, off, c, rfl, h4, by simpa using h3, hcx, if_pos hc0, .inr ⟨g, off, c, cur, rfl, h2, by simpa using h3, by omega, h5, by omega, fun j hj => by omega⟩⟩
    · refine ⟨g, off, off + 1, c, rfl, h4, by simpa using h3, hcx, if_neg hc0, .inr ⟨g, off + 1, c, cur, rfl, h2, by simpa using h3, by omega, h5, by omega, fun j hj => ?_⟩⟩
      have := h7 (j + 1) (by simp; omega)
      rw [show nth (x :: r) (j + 1) = nth r j by unfold nth; simp] at this
      rw [show off + 1 + j = off + (j + 1) by omega]
      exact this
theorem Af.dn (h : Af a A nv nb hd ow l s wk gv nx sl tp bl R w w1) (q : Nat) : Af a A nv nb hd ow l s wk gv nx sl tp bl R w (w1.drewN q) :=
  ⟨⟨h.st.box, h.st.nod, h.st.hel, h.st.own, h.st.len, h.st.len2, h.st.n1, h.st.n2, h.st.k1, h.st.k2, h.st.mem⟩, h.ac, h.tw.dn q⟩
set_option maxHeartbeats 8000000 in
theorem take_own (B wn m : Nat) (x : Int) (r : List Int) (hx : x = m) (hm : m < A.n) (hwk : wk = wn) (hwn : wn < A.k) (h : Po A nv nb hd ow l s w) (ha : Ac a A wk false 1 sl tp bl w) (ho : Ol B (ow wn) (x :: r) w) :
    Calls Try.prog 40 #[.pointer (some ⟨a, 0, none⟩)] w fun e w' => e = .returned (.tuple #[]) ∧ ∃ v', Ol B v' r w ∧ (∀ i, i ∈ vblk v' → i ∈ vblk (ow wn)) ∧ Af a A nv nb (upf hd m true) (upf ow wn v') l s wk false 4 x tp bl R w w' := by
  subst hwk
  obtain ⟨go, off, off', cap, hv, hc1, hc2, hcx, hif, htl⟩ := ho.tail
  obtain ⟨c0, c1, c2, c3, c4, c5, c6, fz⟩ := ha.cells
  obtain ⟨q0, q1, q2, q3, q4⟩ := h.cells
  obtain ⟨k0, k1⟩ := h.oc wn hwn
  rw [hv] at k0
  have hv2 := Lib.hid (show ∀ i, i ∈ vblk (.slice (some ⟨go, off', none⟩) r.length cap) → i ∈ vblk (ow wn) by intro i hi; rw [hv]; simpa [vblk] using hi)
  have htl := Lib.hid htl
  have hne := ha.ne h
  have k2 := h.k2
  have e1 : a ≠ A.bo := hne.o
  have e2 : A.p ≠ A.bo := h.ne.po
  have e3 : a ≠ A.p := hne.p
  obtain ⟨hgo, curg, hcg⟩ := ho.blk go (by rw [hv]; simp [vblk])
  obtain ⟨C3, hC3, _⟩ := h.own
  have e4 : go ≠ a := blk_ty hcg ha (by decide)
  have e5 : go ≠ A.bo := blk_ty hcg hC3 (by decide)
  have A0 := Lib.hid (Af.mk0 (R := R) h ha)
  have TK := Lib.hid (fun W (hW : Af a A nv nb hd (upf ow wn (.slice (some ⟨go, off', none⟩) r.length cap)) l s wn false 1 x tp bl R w W) => taken_any (R := R) m hx hm hW.st hW.ac)
  have i1 : (wn : Int) < (A.k : Int) := by omega
  have j1 : (0 : Int) < (r.length : Int) + 1 := by omega
  have j2 : (1 : Int) ≤ (r.length : Int) + 1 := by omega
  have j3 : (r.length : Int) + 1 ≤ (cap : Int) + 1 := by omega
  clear h ha hv ho q0 q1 q2 q3 hne hx hm hC3 hcg hgo
  generalize r.length = rl at *
  go_enter Try.func40, Try.ntmps40
  go_wp2_with fail
  go_quiet (fail)
  go_wp2_with fail
  go_region_held3 (fun w' => w'.cell? ⟨A.p, 4, none⟩ = some (.slice (some ⟨A.bo, 0, none⟩) A.k A.k) ∧ w'.cell? ⟨a, 1, none⟩ = some (.int .i64 wn) ∧ w'.cell? ⟨go, off, none⟩ = some (.int .i64 x)) (first | exact ⟨q4, c1, hcx⟩ | exact ⟨q4', c1', hcx'⟩ | (refine ⟨?_, ?_, ?_⟩ <;> simp [go_sem, *])) (first | fail)
  all_goals
    have A1 := Lib.hid (((A0.out.dn (nq + 1)).a4 x).ao wn (.slice (some ⟨go, off', none⟩) rl cap))
    generalize (((w.drewN (nq + 1)).setCell ⟨a, 4, none⟩ (.int .i64 x)).setCell ⟨A.bo, wn, none⟩ (.slice (some ⟨go, off', none⟩) rl cap)) = u1 at *
    clear A0
    go_wp2_with fail
    refine (TK.out _ A1.out).mono ?_; rintro e w3 ⟨rfl, f⟩
    have F := Lib.hid (A1.out.tr f)
    clear f TK A1
    go_wp2
    refine bodyPost_ret (results_none rfl _ _ _) rfl ?_
    exact ⟨rfl, _, htl.out, hv2.out, F.out⟩
theorem Ol.nil {B : Nat} {v : Value} (h : Ol B v [] w) : ∃ x c, v = .slice x 0 c := by
  rcases h with ⟨rfl, _⟩ | ⟨g, off, cap, cur, rfl, _⟩
  · exact ⟨_, _, rfl⟩
  · exact ⟨_, _, rfl⟩
/-- a Take that looks at the top: the slot that is there, or none -/
def tpl (T : Int) : Int := T % 4294967296 - 1
set_option maxHeartbeats 8000000 in
theorem take_top (yes : Bool) (B wn : Nat) (T : Int) (hT : nth l A.base = T) (t0 : 0 ≤ T) (t1 : T ≤ 4611686018427387903) (hy : (yes = true ∧ 0 ≤ tpl T ∧ tpl T < A.n) ∨ (yes = false ∧ (tpl T < 0 ∨ (A.n : Int) ≤ tpl T))) (hwk : wk = wn) (hwn : wn < A.k) (s0 : 0 ≤ s) (s1 : s ≤ 1000000) (h : Po A nv nb hd ow l s w) (ha : Ac a A wk false 1 sl tp bl w) (ho : Ol B (ow wn) [] w) :
    Calls Try.prog 40 #[.pointer (some ⟨a, 0, none⟩)] w fun e w' => e = .returned (.tuple #[]) ∧ Af a A nv nb hd ow l (s + 1) wk false (if yes then 2 else 4) (if yes then tpl T else -1) T bl R w w' := by
  subst hwk
  obtain ⟨xa, xc, hv⟩ := ho.nil
  obtain ⟨c0, c1, c2, c3, c4, c5, c6, fz⟩ := ha.cells
  obtain ⟨q0, q1, q2, q3, q4⟩ := h.cells
  obtain ⟨k0, k1⟩ := h.oc wn hwn
  rw [hv] at k0
  have k2 := h.k2
  have RT := Lib.hid (fun W (hW : Po A nv nb hd ow l s W) (hA : Ac a A wn false 1 sl tp bl W) => readTop_any (R := R) s0 s1 hW hA)
  rw [hT] at RT
  have UN : Hid (∀ W, Calls Try.prog 36 #[.int .i64 T] W fun e w' => e = .returned (.tuple #[.int .i64 (T / 4294967296 % 1073741824), .int .i64 (tpl T)]) ∧ W = w') := Lib.hid (fun W => unpack_any T t0 t1 W)
  have HS : Hid (∀ W, Po A nv nb hd ow l (s + 1) W → Calls Try.prog 34 #[.pointer (some ⟨A.p, 0, none⟩), .int .i64 (tpl T)] W fun e w' => e = .returned (.bool yes) ∧ W = w') := Lib.hid (fun W hW => by
    rcases hy with ⟨rfl, h0, h1⟩ | ⟨rfl, h0⟩
    · exact phas_in _ _ h0 h1 _ W (slots_any _ _ _ _ _ _ _ _ W hW.box)
    · exact phas_out _ _ h0 _ W (slots_any _ _ _ _ _ _ _ _ W hW.box))
  have A0 := Lib.hid (Af.mk0 (R := R) h ha)
  have i1 : (wn : Int) < (A.k : Int) := by omega
  clear h ha hv ho q0 q1 q2 q3 hy hT t0 t1 s0 s1
  generalize tpl T = P at *
  generalize T / 4294967296 % 1073741824 = V at *
  go_enter Try.func40, Try.ntmps40
  go_wp2_with fail
  go_quiet (fail)
  go_wp2_with fail
  refine (RT.out _ (A0.out.dn nq).st (A0.out.dn nq).ac).mono ?_; rintro e w3 ⟨rfl, f⟩
  have A1 := Lib.hid ((A0.out.dn nq).tr f)
  clear f RT A0 c0 c1 c2 c3 c4 c5 c6 fz q4 k0 k1
  obtain ⟨c0, c1, c2, c3, c4, c5, c6, fz⟩ := A1.out.ac.cells
  clear c1 c2 c6
  go_wp2_with fail
  refine (UN.out _).mono ?_; rintro e w4 ⟨rfl, rfl⟩
  clear UN
  go_upto_region 9 with fail
  have A2 := Lib.hid (A1.out.a4 P)
  generalize (w3.setCell ⟨a, 4, none⟩ (.int .i64 P)) = u1 at *
  clear A1 c0 c3 c4 c5 fz
  obtain ⟨c0, c1, c2, c3, c4, c5, c6, fz⟩ := A2.out.ac.cells
  clear c0 c1 c2 c5 c6
  go_wp2_with fail
  refine (HS.out _ A2.out.st).mono ?_; rintro e w5 ⟨rfl, rfl⟩
  clear HS
  cases yes
  · go_wp2
    go_end0
    exact ⟨rfl, (A2.out.a4 (-1)).a3 4⟩
  · go_wp2
    go_end0
    exact ⟨rfl, A2.out⟩
set_option maxHeartbeats 8000000 in
theorem take_link (m : Nat) (hm : sl = m) (hm2 : m < A.n) (s0 : 0 ≤ s) (s1 : s ≤ 1000000) (h : Po A nv nb hd ow l s w) (ha : Ac a A wk false 2 sl tp bl w) :
    Calls Try.prog 40 #[.pointer (some ⟨a, 0, none⟩)] w fun e w' => e = .returned (.tuple #[]) ∧ Af a A nv nb hd ow l (s + 1) wk false 3 sl tp (nth l (A.base + 1 + m)) R w w' := by
  subst hm
  obtain ⟨c0, c1, c2, c3, c4, c5, c6, fz⟩ := ha.cells
  obtain ⟨q0, q1, q2, q3, q4⟩ := h.cells
  have hl := h.len
  have hl2 := h.len2
  have n2 := h.n2
  have G := Lib.hid (fun W (hW : Po A nv nb hd ow l s W) => getP (A.base + 1 + m) ((A.base : Int) + 1 + m) (by omega) (by omega) s0 s1 hW)
  have LK := Lib.hid (fun W (hW : Po A nv nb hd ow l s W) => link_any (m : Int) _ _ _ _ _ _ _ _ W hW.box (by omega) (by omega) (by omega) (by omega))
  have A0 := Lib.hid (Af.mk0 (R := R) h ha).dr
  clear h ha s0 s1 c1 c2 c5 c6 q1 q2 q3 q4 hl hl2 n2
  generalize nth l (A.base + 1 + m) = x at *
  generalize (A.base : Int) + 1 + m = ix at *
  go_enter Try.func40, Try.ntmps40
  go_wp2_with fail
  go_region_held3 (fun w' => w'.cell? ⟨A.p, 0, none⟩ = some (.pointer (some ⟨A.g, 0, none⟩)) ∧ w'.cell? ⟨a, 4, none⟩ = some (.int .i64 m)) (first | exact ⟨q0, c4⟩ | (refine ⟨?_, ?_⟩ <;> simp [go_sem, *]))
    (first
      | (go_at_call 31; (with_reducible refine (LK.out _ A0.out.st).mono ?_); rintro e w1 ⟨rfl, rfl⟩)
      | (go_at_call 52; (with_reducible refine (G.out _ A0.out.st).mono ?_); rintro e w1 ⟨rfl, f1, f2⟩; have A1 := Lib.hid (A0.out.mem f1 f2); obtain ⟨q0, q1, q2, q3, q4⟩ := f1.cells; obtain ⟨c0, c1, c2, c3, c4, c5, c6, fz⟩ := A1.out.ac.cells; clear f1 f2 c1 c2 c5 q1 q2 q3 q4))
  all_goals
    clear G LK
    have A2 := Lib.hid (A1.out.a6 x)
    generalize (w1.setCell ⟨a, 6, none⟩ (.int .i64 x)) = u1 at *
    clear A1 c0 c3 c4 c6 fz q0
    obtain ⟨c0, c1, c2, c3, c4, c5, c6, fz⟩ := A2.out.ac.cells
    clear c0 c1 c2 c4 c5 c6
    go_wp2
    go_end0
    exact ⟨rfl, (A2.out.a3 3).st, (A2.out.a3 3).ac, ⟨(A2.out.a3 3).tw.os, (A2.out.a3 3).tw.tape, (A2.out.a3 3).tw.output, (A2.out.a3 3).tw.size, (A2.out.a3 3).tw.block⟩⟩
set_option maxHeartbeats 8000000 in
theorem take_swap (m : Nat) (dn : Bool) (hm : sl = m) (hm2 : m < A.n) (hdn : decide (nth l A.base = tp) = dn) (t0 : 0 ≤ tp) (t1 : tp ≤ 4611686018427387903) (s0 : 0 ≤ s) (s1 : s ≤ 1000000) (h : Po A nv nb hd ow l s w) (ha : Ac a A wk false 3 sl tp bl w) :
    Calls Try.prog 40 #[.pointer (some ⟨a, 0, none⟩)] w fun e w' => e = .returned (.tuple #[]) ∧ Af a A nv nb (if dn then upf hd m true else hd) ow (swt l A.base tp (upv tp bl)) (s + 1) wk false (if dn then 4 else 1) sl tp bl R w w' := by
  obtain ⟨c0, c1, c2, c3, c4, c5, c6, fz⟩ := ha.cells
  have SW := Lib.hid (swapTop_any (R := R) bl dn hdn t0 t1 s0 s1 h ha)
  generalize swt l A.base tp (upv tp bl) = l2 at *
  have TK := Lib.hid (fun W (hW : Af a A nv nb hd ow l2 (s + 1) wk false 1 sl tp bl R w W) => taken_any (R := R) m hm hm2 hW.st hW.ac)
  clear h ha s0 s1 c1 c2 c5 hm hdn t0 t1
  go_enter Try.func40, Try.ntmps40
  go_wp2_with fail
  refine SW.out.mono ?_; rintro e w3 ⟨rfl, f⟩
  have F := Lib.hid f
  clear f SW
  cases dn
  · go_wp2
    go_end0
    exact ⟨rfl, F.out⟩
  · go_wp2_with fail
    refine (TK.out _ F.out).mono ?_; rintro e w4 ⟨rfl, f⟩
    have F2 := Lib.hid (F.out.tr f)
    clear f TK F
    go_wp2
    go_end0
    exact ⟨rfl, F2.out⟩
end
end Go.Proofs.Ytaihmkflhapjeaa

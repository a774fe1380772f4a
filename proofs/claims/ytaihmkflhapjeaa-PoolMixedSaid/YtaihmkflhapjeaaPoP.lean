/-
  A Give that looks again; where each slot is, while several acts are under way.
-/
import Derived.Test.YtaihmkflhapjeaaPoH
namespace Go.Proofs.Ytaihmkflhapjeaa
open Go.RowKit Go.MuLone
set_option linter.unusedVariables false
section
variable {A : Ad} {nv : Nat → Value} {nb : Nat → Int} {hd : Nat → Bool} {ow : Nat → Value} {l : List Int} {s : Int} {w w1 : World} {a : Nat} {wk nx sl tp bl : Int} {gv : Bool} {R : List Nat}
set_option maxHeartbeats 8000000 in
theorem give_look (B wn m : Nat) (r : List Int) (hm : sl = m) (hm2 : m < A.n) (hr : 2 ≤ r.length) (hwk : wk = wn) (hwn : wn < A.k) (s0 : 0 ≤ s) (s1 : s ≤ 1000000) (h : Po A nv nb hd ow l s w) (ha : Ac a A wk true 1 sl tp bl w) (ho : Ol B (ow wn) r w) :
    Calls Try.prog 39 #[.pointer (some ⟨a, 0, none⟩)] w fun e w' => e = .returned (.tuple #[]) ∧ Af a A nv nb hd ow l (s + 1) wk true 2 sl (nth l A.base) bl R w w' := by
  subst hm hwk
  obtain ⟨c0, c1, c2, c3, c4, c5, c6, fz⟩ := ha.cells
  obtain ⟨q0, q1, q2, q3, q4⟩ := h.cells
  obtain ⟨k0, k1⟩ := h.oc wn hwn
  have kk2 := h.k2
  have A0 := Lib.hid (Af.mk0 (R := R) h ha)
  have i2 : (wn : Int) < (A.k : Int) := by omega
  have hrl : ¬ (r.length : Int) < 2 := by omega
  obtain ⟨xa, xc, hv⟩ := ho.form
  rw [hv] at k0
  have RT := Lib.hid (fun W (hW : Po A nv nb hd ow l s W) (hA : Ac a A wn true 1 m tp bl W) => readTop_any (R := R) s0 s1 hW hA)
  clear h ha c2 c4 c5 c6 q0 q1 q2 q3 ho hr s0 s1 fz
  generalize r.length = rl at *
  generalize nth l A.base = x at *
  go_enter Try.func39, Try.ntmps39
  go_wp2_with fail
  go_quiet (fail)
  go_wp2_with fail
  refine (RT.out _ (A0.out.dn _).st (A0.out.dn _).ac).mono ?_; rintro e w3 ⟨rfl, f⟩
  have A2 := Lib.hid ((A0.out.dn _).tr f)
  clear f RT A0 k0 k1 q4
  go_wp2
  go_end0
  exact ⟨rfl, A2.out⟩
end
end Go.Proofs.Ytaihmkflhapjeaa

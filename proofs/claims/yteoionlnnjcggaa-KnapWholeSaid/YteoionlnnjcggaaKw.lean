/-
  knap: New of every problem; Answer.
-/
import Derived.Test.YteoionlnnjcggaaKn
namespace Go.Proofs.Yteoionlnnjcggaa.kn
open Go.RowKit
set_option linter.unusedVariables false
/-- what New answers -/
def NvP (K C : Int) (wl vl : List Int) (er : Int) (w : World) (e : Ending) (w' : World) : Prop :=
  (er ≠ 0 ∧ e = .returned (.tuple #[.pointer none, .int .i64 er]) ∧ Below w.heap.size w w') ∨ (er = 0 ∧ K ≠ 1 ∧ e = .returned (.tuple #[.pointer none, .int .i64 14]) ∧ Below w.heap.size w w') ∨
  (er = 0 ∧ K = 1 ∧ NkP C wl vl w e w')
set_option maxHeartbeats 4000000 in
theorem new_any (K N C : Int) (wl vl : List Int) (cl : List (List Int)) (wa va ca : Option Addr) (wc vc cc : Nat) (w : World) (hw : Ints w wa wl) (hv : Ints w va vl) (hr : Rws w ca cl) (l1 : wl.length ≤ 1000) (l2 : vl.length ≤ 1000) (l3 : cl.length ≤ 1000) :
    Calls Try.prog 9 #[.agg #[.int .i64 K, .int .i64 N, .int .i64 C, .slice wa wl.length wc, .slice va vl.length vc, .slice ca cl.length cc]] w (NvP K C wl vl (chk K N C wl vl cl) w) := by
  have B1 := bl_al (Below.refl _ w) (.cells #[.int .i64 K, .int .i64 N, .int .i64 C, .slice wa wl.length wc, .slice va vl.length vc, .slice ca cl.length cc] 25)
  have CH := check_any K N C wl vl cl wa va ca wc vc cc _ (hw.keep B1) (hv.keep B1) (hr.keep B1) l1 l2 l3
  by_cases hz : chk K N C wl vl cl = 0
  · by_cases hK : K = 1
    · subst hK
      obtain ⟨hN, lv, n1, n2, c0, c1, io, l0⟩ := form_of hz rfl
      rw [hz] at CH ⊢
      have key := fun n h1 h2 h3 h4 h5 C' => new_core (N := N) (C := C) (wl := wl) (vl := vl) (n := n) (ca := ca) (cc := cc) (wc := wc) (vc := vc) h1 h2 h3 h4 h5 hw hv C'
      rw [lv, l0] at CH ⊢
      exact (key wl.length rfl lv n1 n2 io CH).mono fun e w' h => .inr (.inr ⟨rfl, rfl, h⟩)
    · have E1 := Lib.hid (heap_alloc_new w (.cells #[.int .i64 K, .int .i64 N, .int .i64 C, .slice wa wl.length wc, .slice va vl.length vc, .slice ca cl.length cc] 25))
      have HB := Lib.hid B1
      rw [hz] at CH ⊢
      replace CH := Lib.hid CH
      have b1 : (K != 1) = true := by simpa using hK
      have HK := Lib.hid hK
      clear B1 hz hw hv hr hK
      go_enter Try.func9, Try.ntmps9
      go_wp2_with fail
      generalize w.alloc (.cells #[.int .i64 K, .int .i64 N, .int .i64 C, .slice wa wl.length wc, .slice va vl.length vc, .slice ca cl.length cc] 25) = X1 at *
      refine CH.out.mono ?_; rintro e w2 ⟨rfl, hb2⟩
      have HB2 := Lib.hid (bl_tr HB.out hb2)
      have c0 := (cell_of_row _ _ 0 _ _ _ ((hb2.block _ (lt_hp E1.out)).trans E1.out)).trans (show _ = some (Value.int .i64 K) from rfl)
      clear hb2 CH E1 HB
      go_wp2
      go_ret2
      exact .inr (.inl ⟨rfl, HK.out, rfl, HB2.out⟩)
  · have HB := Lib.hid B1
    have HZ := Lib.hid hz
    have b1 : (chk K N C wl vl cl != 0) = true := by simpa using hz
    generalize chk K N C wl vl cl = er at *
    replace CH := Lib.hid CH
    clear B1 hz hw hv hr
    go_enter Try.func9, Try.ntmps9
    go_wp2_with fail
    refine CH.out.mono ?_; rintro e w2 ⟨rfl, hb2⟩
    have HB2 := Lib.hid (bl_tr HB.out hb2)
    clear hb2 CH HB
    go_wp2
    go_ret2
    exact .inl ⟨HZ.out, rfl, HB2.out⟩
end Go.Proofs.Yteoionlnnjcggaa.kn

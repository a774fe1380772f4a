/-
  inst.Write and the reference's Write answer alike, whatever the problem.
-/
import Derived.Test.YtknpjeeclagmjaaDoorWrite1
import Derived.Test.YtknpjeeclagmjaaDoorWrite2
import Derived.Test.YtknpjeeclagmjaaDoorWrite3
import Derived.Test.YtknpjeeclagmjaaDoorRWrite1
import Derived.Test.YtknpjeeclagmjaaDoorRWrite2
import Derived.Test.YtknpjeeclagmjaaDoorRWrite3
namespace Go.Proofs.YtknpjeeclagmjaaDoor
open Go.RowKit
set_option linter.unusedVariables false
def WPost (t : ByteArray) (er : Int) (w : World) (e : Ending) (w' : World) : Prop := e = .returned (.tuple #[.string t, .int .i64 er]) ∧ Below w.heap.size w w'
set_option maxRecDepth 100000 in
theorem write_bad (K N C : Int) (wl vl : List Int) (cl : List (List Int)) (wa va ca : Option Addr) (wc vc cc : Nat) (er : Int) (hz : chk K N C wl vl cl = er) (he : er ≠ 0) (l1 : wl.length ≤ 1000) (l2 : vl.length ≤ 1000) (l3 : cl.length ≤ 1000) (w : World) (i1 : Ints w wa wl) (i2 : Ints w va vl) (i3 : Rws w ca cl) :
    Calls Tryd.prog 12 #[.agg #[.int .i64 K, .int .i64 N, .int .i64 C, .slice wa wl.length wc, .slice va vl.length vc, .slice ca cl.length cc]] w (WPost ⟨#[]⟩ er w) := by
  have hb : ((er : Int) != 0) = true := by simpa using he
  have bA : ∀ o, Below w.heap.size w (w.alloc o) := fun o => bl_al (Below.refl _ _) _
  have C1 : Hid (∀ o, Calls Tryd.prog 10 #[.agg #[.int .i64 K, .int .i64 N, .int .i64 C, .slice wa wl.length wc, .slice va vl.length vc, .slice ca cl.length cc]] (w.alloc o) fun e w' => e = .returned (.int .i64 er) ∧ Below (w.alloc o).heap.size (w.alloc o) w') := Lib.hid fun o => by
    have := check_any K N C wl vl cl wa va ca wc vc cc (w.alloc o) (i1.keep (bA o)) (i2.keep (bA o)) (i3.keep (bA o)) l1 l2 l3
    rw [hz] at this; exact this
  have BA := Lib.hid bA
  clear i1 i2 i3 hz bA he
  go_enter Tryd.func12, Tryd.ntmps12
  go_wp2_with fail
  refine (C1.out _).mono ?_; rintro e w1 ⟨rfl, hb1⟩
  have HB := Lib.hid (bl_tr (BA.out _) hb1)
  clear hb1
  go_wp2
  go_ret2
  exact ⟨rfl, HB.out⟩
set_option maxRecDepth 100000 in
theorem rwrite_bad (K N C : Int) (wl vl : List Int) (cl : List (List Int)) (wa va ca : Option Addr) (wc vc cc : Nat) (er : Int) (hz : chk K N C wl vl cl = er) (he : er ≠ 0) (l1 : wl.length ≤ 1000) (l2 : vl.length ≤ 1000) (l3 : cl.length ≤ 1000) (w : World) (i1 : Ints w wa wl) (i2 : Ints w va vl) (i3 : Rws w ca cl) :
    Calls Tryd.prog 13 #[.agg #[.int .i64 K, .int .i64 N, .int .i64 C, .slice wa wl.length wc, .slice va vl.length vc, .slice ca cl.length cc]] w (WPost ⟨#[]⟩ er w) := by
  have hb : ((er : Int) != 0) = true := by simpa using he
  have bA : ∀ o, Below w.heap.size w (w.alloc o) := fun o => bl_al (Below.refl _ _) _
  have C1 : Hid (∀ o, Calls Tryd.prog 11 #[.agg #[.int .i64 K, .int .i64 N, .int .i64 C, .slice wa wl.length wc, .slice va vl.length vc, .slice ca cl.length cc]] (w.alloc o) fun e w' => e = .returned (.int .i64 er) ∧ Below (w.alloc o).heap.size (w.alloc o) w') := Lib.hid fun o => by
    have := ref_any K N C wl vl cl wa va ca wc vc cc (w.alloc o) (i1.keep (bA o)) (i2.keep (bA o)) (i3.keep (bA o)) l1 l2 l3
    rw [hz] at this; exact this
  have BA := Lib.hid bA
  clear i1 i2 i3 hz bA he
  go_enter Tryd.func13, Tryd.ntmps13
  go_wp2_with fail
  refine (C1.out _).mono ?_; rintro e w1 ⟨rfl, hb1⟩
  have HB := Lib.hid (bl_tr (BA.out _) hb1)
  clear hb1
  go_wp2
  go_ret2
  exact ⟨rfl, HB.out⟩
theorem wr_both (K N C : Int) (wl vl : List Int) (cl : List (List Int)) (l1 : wl.length ≤ 1000) (l2 : vl.length ≤ 1000) (l3 : cl.length ≤ 1000) : ∃ t er,
    (∀ (wa va ca : Option Addr) (wc vc cc : Nat) (w : World), Tab w → Ints w wa wl → Ints w va vl → Rws w ca cl → Calls Tryd.prog 12 #[.agg #[.int .i64 K, .int .i64 N, .int .i64 C, .slice wa wl.length wc, .slice va vl.length vc, .slice ca cl.length cc]] w (WPost t er w)) ∧
    (∀ (wa va ca : Option Addr) (wc vc cc : Nat) (w : World), Ints w wa wl → Ints w va vl → Rws w ca cl → Calls Tryd.prog 13 #[.agg #[.int .i64 K, .int .i64 N, .int .i64 C, .slice wa wl.length wc, .slice va vl.length vc, .slice ca cl.length cc]] w (WPost t er w)) := by
  by_cases hz : chk K N C wl vl cl = 0
  · refine ⟨⟨(wtx K N C wl vl cl).toArray⟩, 0, ?_⟩
    obtain ⟨h1, h2⟩ := chk_zero hz
    rcases (show K = 1 ∨ K = 2 ∨ K = 3 by omega) with rfl | rfl | rfl
    · exact ⟨fun wa va ca wc vc cc w ht i1 i2 i3 => write1 N C wl vl cl wa va ca wc vc cc w ht i1 i2 i3 hz, fun wa va ca wc vc cc w i1 i2 i3 => rwrite1 N C wl vl cl wa va ca wc vc cc w i1 i2 i3 hz⟩
    · exact ⟨fun wa va ca wc vc cc w ht i1 i2 i3 => write2 N C wl vl cl wa va ca wc vc cc w ht i1 i2 i3 hz, fun wa va ca wc vc cc w i1 i2 i3 => rwrite2 N C wl vl cl wa va ca wc vc cc w i1 i2 i3 hz⟩
    · exact ⟨fun wa va ca wc vc cc w ht i1 i2 i3 => write3 N C wl vl cl wa va ca wc vc cc w ht i1 i2 i3 hz, fun wa va ca wc vc cc w i1 i2 i3 => rwrite3 N C wl vl cl wa va ca wc vc cc w i1 i2 i3 hz⟩
  · exact ⟨_, _, fun wa va ca wc vc cc w _ i1 i2 i3 => write_bad K N C wl vl cl wa va ca wc vc cc _ rfl hz l1 l2 l3 w i1 i2 i3, fun wa va ca wc vc cc w i1 i2 i3 => rwrite_bad K N C wl vl cl wa va ca wc vc cc _ rfl hz l1 l2 l3 w i1 i2 i3⟩
end Go.Proofs.YtknpjeeclagmjaaDoor

/-
  The reader's size.
-/
import Derived.Test.YtegieoajjfodcaaGreatDoorRd
namespace Go.Proofs.YtegieoajjfodcaaGreatDoor
open Go.RowKit
set_option linter.unusedVariables false
set_option maxHeartbeats 20000000 in
theorem size_core (b g o m c : Nat) (f : Int) (t : Tok) (w : World) (G : World → Prop) (most nv z : Int) (qb : Bool) (hv : (nv ≠ 0 ∧ z = nv) ∨ (nv = 0 ∧ t.num = 0 ∧ z = 1) ∨ (nv = 0 ∧ t.num ≠ 0 ∧ z = 0))
    (h : RD b g o (m + 1) (c + 1) f w) (ht : Front g o t w)
    (HV : Hid (∀ W : World, Calls Tryz.prog 141 #[.agg #[.int .i64 t.kind, .string t.text, .int .i64 t.num, .int .i64 t.at_], .int .i64 most] W fun e w' => e = .returned (.int .i64 nv) ∧ Below W.heap.size W w'))
    (HP : Hid (∀ w2, Below (w.alloc (tokO t)).heap.size (w.alloc (tokO t)) w2 → Calls Tryz.prog 45 #[.pointer (some ⟨b, 0, none⟩), .int .i64 z] w2 fun r w' => r = .returned (.bool qb) ∧ G w' ∧ w'.heap[w.heap.size]? = some (tokO t))) :
    Calls Tryz.prog 78 #[.pointer (some ⟨b, 0, none⟩), .int .i64 most] w fun r w' => r = .returned (.int .i64 (if qb = true then t.num else 0)) ∧ G w' := by
  obtain ⟨c0, c1, fz⟩ := h.cells
  obtain ⟨t0, t1, t2, t3⟩ := ht
  have HT : Hid (∀ w2, Below (w.alloc (tokO t)).heap.size (w.alloc (tokO t)) w2 → RD b g o (m + 1) (c + 1) f w2 ∧ w2.heap[w.heap.size]? = some (tokO t) ∧ Ch1 b w w2 ∧ w.heap.size ≠ b ∧ w.heap.size < w2.heap.size) := Lib.hid fun w2 hB => taken t h hB
  clear h
  rcases hv with ⟨hn, rfl⟩ | ⟨rfl, hn, rfl⟩ | ⟨rfl, hn, rfl⟩
  · have d0 : (z == 0) = false := by simpa using hn
    clear hn
    cases qb
    · go_enter Tryz.func78, Tryz.ntmps78
      go_wp2_with fail
      refine (HV.out _).mono ?_
      rintro e w2 ⟨rfl, hB⟩
      obtain ⟨r2, b2, ch2, ne2, lt2⟩ := HT.out w2 hB
      obtain ⟨k0, k1, k2⟩ := tok_cells b2
      have HQ := Lib.hid (HP.out w2 hB)
      clear hB c0 c1 fz t0 t1 t2 t3 HT HP HV r2 b2 ch2
      go_wp2_with fail
      refine HQ.out.mono ?_
      rintro e w3 ⟨rfl, hG, b3⟩
      have FN := Lib.hid hG
      clear hG HQ k0 k1 k2
      obtain ⟨k0, k1, k2⟩ := tok_cells b3
      clear b3
      go_wp2
      go_ret
      exact ⟨rfl, FN.out⟩
    · go_enter Tryz.func78, Tryz.ntmps78
      go_wp2_with fail
      refine (HV.out _).mono ?_
      rintro e w2 ⟨rfl, hB⟩
      obtain ⟨r2, b2, ch2, ne2, lt2⟩ := HT.out w2 hB
      obtain ⟨k0, k1, k2⟩ := tok_cells b2
      have HQ := Lib.hid (HP.out w2 hB)
      clear hB c0 c1 fz t0 t1 t2 t3 HT HP HV r2 b2 ch2
      go_wp2_with fail
      refine HQ.out.mono ?_
      rintro e w3 ⟨rfl, hG, b3⟩
      have FN := Lib.hid hG
      clear hG HQ k0 k1 k2
      obtain ⟨k0, k1, k2⟩ := tok_cells b3
      clear b3
      go_wp2
      go_ret
      exact ⟨rfl, FN.out⟩
  · have d0 : (t.num == 0) = true := by simpa using hn
    clear hn
    cases qb
    · go_enter Tryz.func78, Tryz.ntmps78
      go_wp2_with fail
      refine (HV.out _).mono ?_
      rintro e w2 ⟨rfl, hB⟩
      obtain ⟨r2, b2, ch2, ne2, lt2⟩ := HT.out w2 hB
      obtain ⟨k0, k1, k2⟩ := tok_cells b2
      have HQ := Lib.hid (HP.out w2 hB)
      clear hB c0 c1 fz t0 t1 t2 t3 HT HP HV r2 b2 ch2
      go_wp2_with fail
      refine HQ.out.mono ?_
      rintro e w3 ⟨rfl, hG, b3⟩
      have FN := Lib.hid hG
      clear hG HQ k0 k1 k2
      obtain ⟨k0, k1, k2⟩ := tok_cells b3
      clear b3
      go_wp2
      go_ret
      exact ⟨rfl, FN.out⟩
    · go_enter Tryz.func78, Tryz.ntmps78
      go_wp2_with fail
      refine (HV.out _).mono ?_
      rintro e w2 ⟨rfl, hB⟩
      obtain ⟨r2, b2, ch2, ne2, lt2⟩ := HT.out w2 hB
      obtain ⟨k0, k1, k2⟩ := tok_cells b2
      have HQ := Lib.hid (HP.out w2 hB)
      clear hB c0 c1 fz t0 t1 t2 t3 HT HP HV r2 b2 ch2
      go_wp2_with fail
      refine HQ.out.mono ?_
      rintro e w3 ⟨rfl, hG, b3⟩
      have FN := Lib.hid hG
      clear hG HQ k0 k1 k2
      obtain ⟨k0, k1, k2⟩ := tok_cells b3
      clear b3
      go_wp2
      go_ret
      exact ⟨rfl, FN.out⟩
  · have d0 : (t.num == 0) = false := by simpa using hn
    clear hn
    cases qb
    · go_enter Tryz.func78, Tryz.ntmps78
      go_wp2_with fail
      refine (HV.out _).mono ?_
      rintro e w2 ⟨rfl, hB⟩
      obtain ⟨r2, b2, ch2, ne2, lt2⟩ := HT.out w2 hB
      obtain ⟨k0, k1, k2⟩ := tok_cells b2
      have HQ := Lib.hid (HP.out w2 hB)
      clear hB c0 c1 fz t0 t1 t2 t3 HT HP HV r2 b2 ch2
      go_wp2_with fail
      refine HQ.out.mono ?_
      rintro e w3 ⟨rfl, hG, b3⟩
      have FN := Lib.hid hG
      clear hG HQ k0 k1 k2
      obtain ⟨k0, k1, k2⟩ := tok_cells b3
      clear b3
      go_wp2
      go_ret
      exact ⟨rfl, FN.out⟩
    · go_enter Tryz.func78, Tryz.ntmps78
      go_wp2_with fail
      refine (HV.out _).mono ?_
      rintro e w2 ⟨rfl, hB⟩
      obtain ⟨r2, b2, ch2, ne2, lt2⟩ := HT.out w2 hB
      obtain ⟨k0, k1, k2⟩ := tok_cells b2
      have HQ := Lib.hid (HP.out w2 hB)
      clear hB c0 c1 fz t0 t1 t2 t3 HT HP HV r2 b2 ch2
      go_wp2_with fail
      refine HQ.out.mono ?_
      rintro e w3 ⟨rfl, hG, b3⟩
      have FN := Lib.hid hG
      clear hG HQ k0 k1 k2
      obtain ⟨k0, k1, k2⟩ := tok_cells b3
      clear b3
      go_wp2
      go_ret
      exact ⟨rfl, FN.out⟩
end Go.Proofs.YtegieoajjfodcaaGreatDoor

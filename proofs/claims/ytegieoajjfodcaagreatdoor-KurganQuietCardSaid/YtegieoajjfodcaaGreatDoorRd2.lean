/-
  The reader's size, nought and end.
-/
import Derived.Test.YtegieoajjfodcaaGreatDoorRd
namespace Go.Proofs.YtegieoajjfodcaaGreatDoor
open Go.RowKit
set_option linter.unusedVariables false
/-- what is wrong with a token where n is to stand -/
def sf (t : Tok) (most : Int) : Int := if nf t.kind t.num most = 0 then (if t.num = 0 then 1 else 0) else nf t.kind t.num most
/-- what is wrong with a token where 0 is to stand -/
def zf (t : Tok) : Int := if nf t.kind t.num 2147483647 = 0 then (if t.num = 0 then 0 else 8) else nf t.kind t.num 2147483647
theorem sf_ok {t : Tok} {most : Int} (h : sf t most = 0) : nf t.kind t.num most = 0 ∧ t.num ≠ 0 := by
  unfold sf at h
  split at h
  · rename_i q
    split at h
    · omega
    · rename_i q2; exact ⟨q, q2⟩
  · rename_i q; exact absurd h q
theorem zf_ok {t : Tok} (h : zf t = 0) : nf t.kind t.num 2147483647 = 0 ∧ t.num = 0 := by
  unfold zf at h
  split at h
  · rename_i q
    split at h
    · rename_i q2; exact ⟨q, q2⟩
    · omega
  · rename_i q; exact absurd h q
theorem nf_tok (t : Tok) (most : Int) (w : World) : Calls Tryz.prog 141 #[.agg #[.int .i64 t.kind, .string t.text, .int .i64 t.num, .int .i64 t.at_], .int .i64 most] w fun e w' => e = .returned (.int .i64 (nf t.kind t.num most)) ∧ Below w.heap.size w w' := nf_any _ _ _ _ _ _
set_option maxHeartbeats 20000000 in
theorem nought_core (b g o m c : Nat) (f : Int) (t : Tok) (w : World) (G : World → Prop) (nv z : Int) (hv : (nv ≠ 0 ∧ z = nv) ∨ (nv = 0 ∧ t.num ≠ 0 ∧ z = 8) ∨ (nv = 0 ∧ t.num = 0 ∧ z = 0))
    (h : RD b g o (m + 1) (c + 1) f w) (ht : Front g o t w)
    (HV : Hid (∀ W : World, Calls Tryz.prog 141 #[.agg #[.int .i64 t.kind, .string t.text, .int .i64 t.num, .int .i64 t.at_], .int .i64 2147483647] W fun e w' => e = .returned (.int .i64 nv) ∧ Below W.heap.size W w'))
    (HP : Hid (∀ w2, Below (w.alloc (tokO t)).heap.size (w.alloc (tokO t)) w2 → Calls Tryz.prog 45 #[.pointer (some ⟨b, 0, none⟩), .int .i64 z] w2 fun r w' => (∃ q, r = .returned (.bool q)) ∧ G w')) :
    Calls Tryz.prog 142 #[.pointer (some ⟨b, 0, none⟩)] w fun r w' => r = .returned (.tuple #[]) ∧ G w' := by
  obtain ⟨c0, c1, fz⟩ := h.cells
  obtain ⟨t0, t1, t2, t3⟩ := ht
  have HT : Hid (∀ w2, Below (w.alloc (tokO t)).heap.size (w.alloc (tokO t)) w2 → RD b g o (m + 1) (c + 1) f w2 ∧ w2.heap[w.heap.size]? = some (tokO t) ∧ Ch1 b w w2 ∧ w.heap.size ≠ b ∧ w.heap.size < w2.heap.size) := Lib.hid fun w2 hB => taken t h hB
  clear h
  rcases hv with ⟨hn, rfl⟩ | ⟨rfl, hn, rfl⟩ | ⟨rfl, hn, rfl⟩
  · have d0 : (z == 0) = false := by simpa using hn
    clear hn
    go_enter Tryz.func142, Tryz.ntmps142
    go_wp2_with fail
    refine (HV.out _).mono ?_
    rintro e w2 ⟨rfl, hB⟩
    obtain ⟨r2, b2, ch2, ne2, lt2⟩ := HT.out w2 hB
    obtain ⟨k0, k1, k2⟩ := tok_cells b2
    have HQ := Lib.hid (HP.out w2 hB)
    clear hB c0 c1 fz t0 t1 t2 t3 HT HP HV r2 b2 ch2
    go_wp2_with fail
    refine HQ.out.mono ?_
    rintro e w3 ⟨⟨q, rfl⟩, hG⟩
    have FN := Lib.hid hG
    clear hG HQ k0 k1 k2
    go_wp2
    exact bodyPost_end (results_none rfl _ _ _) rfl ⟨rfl, FN.out⟩
  · have d0 : (t.num != 0) = true := by simpa using hn
    clear hn
    go_enter Tryz.func142, Tryz.ntmps142
    go_wp2_with fail
    refine (HV.out _).mono ?_
    rintro e w2 ⟨rfl, hB⟩
    obtain ⟨r2, b2, ch2, ne2, lt2⟩ := HT.out w2 hB
    obtain ⟨k0, k1, k2⟩ := tok_cells b2
    have HQ := Lib.hid (HP.out w2 hB)
    clear hB c0 c1 fz t0 t1 t2 t3 HT HP HV r2 b2 ch2
    go_wp2_with fail
    refine HQ.out.mono ?_
    rintro e w3 ⟨⟨q, rfl⟩, hG⟩
    have FN := Lib.hid hG
    clear hG HQ k0 k1 k2
    go_wp2
    exact bodyPost_end (results_none rfl _ _ _) rfl ⟨rfl, FN.out⟩
  · have d0 : (t.num != 0) = false := by simpa using hn
    clear hn
    go_enter Tryz.func142, Tryz.ntmps142
    go_wp2_with fail
    refine (HV.out _).mono ?_
    rintro e w2 ⟨rfl, hB⟩
    obtain ⟨r2, b2, ch2, ne2, lt2⟩ := HT.out w2 hB
    obtain ⟨k0, k1, k2⟩ := tok_cells b2
    have HQ := Lib.hid (HP.out w2 hB)
    clear hB c0 c1 fz t0 t1 t2 t3 HT HP HV r2 b2 ch2
    go_wp2_with fail
    refine HQ.out.mono ?_
    rintro e w3 ⟨⟨q, rfl⟩, hG⟩
    have FN := Lib.hid hG
    clear hG HQ k0 k1 k2
    go_wp2
    exact bodyPost_end (results_none rfl _ _ _) rfl ⟨rfl, FN.out⟩
end Go.Proofs.YtegieoajjfodcaaGreatDoor

/-
  assign: assigns().
-/
import Derived.Test.YtlhpiikpmmlpeaaDoorAv
namespace Go.Proofs.YtlhpiikpmmlpeaaDoor
open Go.RowKit
set_option linter.unusedVariables false
set_option linter.unusedSimpArgs false
theorem kid2 {T : List Int} (h : KidT [1, 2] (frl 2 []) T) : T = [0, 1] := by
  have e : frl 2 [] = [0, 1] := by decide +kernel
  rw [e] at h
  refine h.one ⟨rfl, fun a ha => ?_⟩
  rcases a with _ | _ | a
  · decide +kernel
  · decide +kernel
  · exact absurd ha (by simp)
theorem chk2 : chk 2 2 0 [] [] [[1, 2], [3, 9]] = 0 := by
  rw [chk_costs (by omega) (by omega) (by omega) (by unfold formP rowsP; exact .inr ⟨by decide, rfl, rfl, rfl, rfl, by decide⟩) (by decide)]
  decide +kernel
theorem bd2 : csm [[1, 2], [3, 9]] [] 0 + restR 2 [[1, 2], [3, 9]] (frl 2 []) 0 = 5 := by decide +kernel
theorem nil_ints (W : World) : Ints W none [] := fun j hj => absurd hj (by simp)
theorem ent2 : EntB 2 [[1, 2], [3, 9]] := fun r c hr hc => by
  rcases r with _ | _ | r
  · rcases c with _ | _ | c
    · decide +kernel
    · decide +kernel
    · omega
  · rcases c with _ | _ | c
    · decide +kernel
    · decide +kernel
    · omega
  · omega
theorem pre2 (n : Nat) : Pre n [] := ⟨List.nodup_nil, fun v hv => by simp at hv⟩
set_option maxRecDepth 100000 in
set_option maxHeartbeats 8000000 in
theorem assigns_any (w : World) (hT : st.T64 w) : Calls Tryd.prog 20 #[] w fun e w' => e = .returned (.bool true) ∧ Below w.heap.size w w' := by
  obtain ⟨W1, hW1⟩ : ∃ W1, W1 = w.alloc (.cells #[.int .i64 1, .int .i64 2] 3) := ⟨_, rfl⟩
  obtain ⟨W2, hW2⟩ : ∃ W2, W2 = W1.alloc (.cells #[.int .i64 3, .int .i64 9] 3) := ⟨_, rfl⟩
  obtain ⟨W3, hW3⟩ : ∃ W3, W3 = W2.alloc (.cells #[.slice (some ⟨w.heap.size, 0, none⟩) 2 2, .slice (some ⟨w.heap.size + 1, 0, none⟩) 2 2] 22) := ⟨_, rfl⟩
  have s1 : W1.heap.size = w.heap.size + 1 := by rw [hW1]; simp
  have s2 : W2.heap.size = w.heap.size + 1 + 1 := by rw [hW2]; simp [s1]
  have b1 : Below w.heap.size w W1 := by rw [hW1]; exact bl_al (Below.refl _ _) _
  have b2 : Below W1.heap.size W1 W2 := by rw [hW2]; exact bl_al (Below.refl _ _) _
  have b3 : Below W2.heap.size W2 W3 := by rw [hW3]; exact bl_al (Below.refl _ _) _
  have B3 := bl_tr (bl_tr b1 b2) b3
  have A1 : W3.heap[w.heap.size]? = some (.cells #[.int .i64 1, .int .i64 2] 3 (0, 0)) := (b3.block _ (by omega)).trans ((b2.block _ (by omega)).trans (by rw [hW1]; exact heap_alloc_new w _))
  have A2 : W3.heap[w.heap.size + 1]? = some (.cells #[.int .i64 3, .int .i64 9] 3 (0, 0)) := (b3.block _ (by omega)).trans (by rw [hW2, ← s1]; exact heap_alloc_new W1 _)
  have A3 : W3.heap[w.heap.size + 1 + 1]? = some (.cells #[.slice (some ⟨w.heap.size, 0, none⟩) 2 2, .slice (some ⟨w.heap.size + 1, 0, none⟩) 2 2] 22 (0, 0)) := by rw [hW3, ← s2]; exact heap_alloc_new W2 _
  have I1 : Ints W3 (some ⟨w.heap.size, 0, none⟩) [1, 2] := fun j hj => by
    refine ⟨w.heap.size, 0, rfl, lt_hp A1, ?_⟩
    rw [Nat.zero_add]
    rcases j with _ | _ | j
    · exact (cell_of_row _ _ 0 _ 3 _ A1).trans rfl
    · exact (cell_of_row _ _ 1 _ 3 _ A1).trans rfl
    · exact absurd hj (by simp)
  have I2 : Ints W3 (some ⟨w.heap.size + 1, 0, none⟩) [3, 9] := fun j hj => by
    refine ⟨w.heap.size + 1, 0, rfl, lt_hp A2, ?_⟩
    rw [Nat.zero_add]
    rcases j with _ | _ | j
    · exact (cell_of_row _ _ 0 _ 3 _ A2).trans rfl
    · exact (cell_of_row _ _ 1 _ 3 _ A2).trans rfl
    · exact absurd hj (by simp)
  have I3 : Rws W3 (some ⟨w.heap.size + 1 + 1, 0, none⟩) [[1, 2], [3, 9]] := fun j hj => by
    rcases j with _ | _ | j
    · exact ⟨w.heap.size + 1 + 1, 0, _, 2, rfl, lt_hp A3, (cell_of_row _ _ 0 _ 22 _ A3).trans rfl, I1, by decide⟩
    · exact ⟨w.heap.size + 1 + 1, 0, _, 2, rfl, lt_hp A3, (cell_of_row _ _ 1 _ 22 _ A3).trans rfl, I2, by decide⟩
    · exact absurd hj (by simp)
  have NW := new_any 2 2 0 [] [] [[1, 2], [3, 9]] none none (some ⟨w.heap.size + 1 + 1, 0, none⟩) 0 0 2 W3 ⟨nil_ints _, nil_ints _, I3, by decide, by decide, by decide⟩
  have NW2 := Lib.hid (show Calls Tryd.prog 14 #[.agg #[.int .i64 2, .int .i64 2, .int .i64 0, .slice none 0 0, .slice none 0 0, .slice (some ⟨w.heap.size + 1 + 1, 0, none⟩) 2 2]] W3 (fun e w' => ∃ b, e = .returned (.tuple #[.pointer (some ⟨b, 0, none⟩), .int .i64 0]) ∧ Below W3.heap.size W3 w' ∧ AK W3.heap.size b 2 [[1, 2], [3, 9]] w') from NW.mono fun e w' q => by
    rcases q with ⟨q, _⟩ | ⟨_, q, _⟩ | ⟨_, _, b, n, e1, e2, e3, e4, e5⟩
    · exact absurd chk2 q
    · exact absurd rfl q
    · have : n = 2 := by omega
      subst this
      exact ⟨b, e3, e4, e5⟩)
  have HB := Lib.hid B3
  have HT := Lib.hid (hT.keep B3)
  rw [hW2, hW1] at hW3
  have HW := Lib.hid hW3
  clear A1 A2 A3 I1 I2 I3 NW b1 b2 b3 B3 hW1 hW2 hW3 hT s1 s2
  clear W1 W2
  go_enter Tryd.func20, Tryd.ntmps20
  go_wp2_with fail
  first | rw [← HW.out] | trace_state
  clear HW
  refine NW2.out.mono ?_; rintro e w4 ⟨b, rfl, hb4, hk⟩
  have B4 := Lib.hid (bl_tr HB.out hb4)
  have T4 := Lib.hid (HT.out.keep hb4)
  have BD := Lib.hid (show Calls Tryd.prog 17 #[.pointer (some ⟨b, 0, none⟩), .slice none 0 0] w4 fun e w' => e = .returned (.tuple #[.int .i64 5, .int .i64 0]) ∧ Below w4.heap.size w4 w' from (bound_any [] (by decide) none 0 w4 T4.out hk (nil_ints _) ent2).mono fun e w' q => by
    rcases q with ⟨q, _⟩ | ⟨_, q1, q2⟩
    · exact absurd (pre2 2) q
    · refine ⟨?_, q2⟩
      rw [q1]
      show Ending.returned (.tuple #[.int .i64 (csm [[1, 2], [3, 9]] [] 0 + restR 2 [[1, 2], [3, 9]] (frl 2 []) 0), .int .i64 0]) = _
      rw [bd2])
  have KD := Lib.hid (fun (W : World) (hb : Below w4.heap.size w4 W) => show Calls Tryd.prog 16 #[.pointer (some ⟨b, 0, none⟩), .slice none 0 0] W fun e w' => ∃ g cap, e = .returned (.tuple #[.slice (some ⟨g, 0, none⟩) 2 cap, .int .i64 0]) ∧ w'.cell? ⟨g, 0, none⟩ = some (.int .i64 0) ∧ Below W.heap.size W w' from (kids_any [] (by decide) none 0 W (T4.out.keep hb) (hk.keep hb) (nil_ints _)).mono fun e w' q => by
    rcases q with ⟨q, _⟩ | ⟨_, q, _⟩ | ⟨_, _, g, cap, T, rfl, q1, q2⟩
    · exact absurd (pre2 2) q
    · cases q
    · obtain rfl := kid2 q1
      exact ⟨g, cap, rfl, (q2.cell 0 (by decide)).trans (by rw [show od.nth [0, 1] 0 = 0 from by decide +kernel]), q2.2.2.2⟩)
  clear hb4 hk NW2 HB HT
  go_wp2_with fail
  refine BD.out.mono ?_; rintro e w5 ⟨rfl, hb5⟩
  have B5 := Lib.hid (bl_tr B4.out hb5)
  have K5 := Lib.hid (KD.out w5 hb5)
  clear hb5 KD BD
  go_wp2_with fail
  refine K5.out.mono ?_; rintro e w6 ⟨g, cap, rfl, c0, hb6⟩
  have HE := Lib.hid (bl_tr B5.out hb6)
  clear hb6
  go_wp2
  first
    | exact ⟨rfl, HE.out⟩
    | (go_ret; exact ⟨rfl, HE.out⟩)
end Go.Proofs.YtlhpiikpmmlpeaaDoor

/-
  What Parse answers, of every text.
-/
import Derived.Test.YtegieoajjfodcaaGreatDoorPr
namespace Go.Proofs.YtegieoajjfodcaaGreatDoor
open Go.RowKit
set_option linter.unusedVariables false
theorem IV.kept {v : Value} {K : Int} {N : Nat} {C : Int} {wl vl : List Int} {cl : List (List Int)} {B x : Nat} {w w' : World} (h : IV v K N C wl vl cl B w) (hg : w.grownBy w' (some x)) {cs : Array Value} {t : TypeId} (hx : w.heap[x]? = some (.cells cs t (0, 0))) (h3 : t ≠ 3) (h23 : t ≠ 27) : IV v K N C wl vl cl B w' := by
  obtain ⟨wa, va, ca, wc, vc, cc, hv, hW, hV, hC⟩ := h.ex
  refine ⟨wa, va, ca, wc, vc, cc, hv, hW.kept hg (.inr (row_neE hW hx h3)), hV.kept hg (.inr (row_neE hV hx h3)), ?_⟩
  rcases hC with hC | ⟨gc, gs, M, e1, e2, e3, hT⟩
  · exact .inl hC
  · exact .inr ⟨gc, gs, M, e1, e2, e3, hT.top.kept hg (.inr (row_neE hT.top hx h23)), fun j hj => (hT.rows j hj).kept hg (.inr (row_neE (hT.rows j hj) hx h3)), hT.inj⟩
theorem IV.up {v : Value} {K : Int} {N : Nat} {C : Int} {wl vl : List Int} {cl : List (List Int)} {B : Nat} {w w' : World} (h : IV v K N C wl vl cl B w) (hb : Below w.heap.size w w') : IV v K N C wl vl cl B w' := by
  obtain ⟨wa, va, ca, wc, vc, cc, hv, hW, hV, hC⟩ := h.ex
  refine ⟨wa, va, ca, wc, vc, cc, hv, ownsRow_up hW hb, ownsRow_up hV hb, ?_⟩
  rcases hC with hC | ⟨gc, gs, M, e1, e2, e3, hT⟩
  · exact .inl hC
  · exact .inr ⟨gc, gs, M, e1, e2, e3, hT.up hb⟩
theorem IV.set {v : Value} {K : Int} {N : Nat} {C : Int} {wl vl : List Int} {cl : List (List Int)} {B q : Nat} {w : World} (h : IV v K N C wl vl cl B w) (hq : q < B) (j : Nat) (u : Value) : IV v K N C wl vl cl B (w.setCell ⟨q, j, none⟩ u) := by
  obtain ⟨wa, va, ca, wc, vc, cc, hv, hW, hV, hC⟩ := h.ex
  refine ⟨wa, va, ca, wc, vc, cc, hv, ownsRow_setCell_below (a := ⟨q, j, none⟩) hW hq u, ownsRow_setCell_below (a := ⟨q, j, none⟩) hV hq u, ?_⟩
  rcases hC with hC | ⟨gc, gs, M, e1, e2, e3, hT⟩
  · exact .inl hC
  · exact .inr ⟨gc, gs, M, e1, e2, e3, hT.set hq j u⟩
theorem IV.le {v : Value} {K : Int} {N : Nat} {C : Int} {wl vl : List Int} {cl : List (List Int)} {B B' : Nat} {w : World} (h : IV v K N C wl vl cl B w) (hB : B' ≤ B) : IV v K N C wl vl cl B' w := by
  obtain ⟨wa, va, ca, wc, vc, cc, hv, hW, hV, hC⟩ := h.ex
  refine ⟨wa, va, ca, wc, vc, cc, hv, Go.Joins.ownsRow_le hW hB, Go.Joins.ownsRow_le hV hB, ?_⟩
  rcases hC with hC | ⟨gc, gs, M, e1, e2, e3, hT⟩
  · exact .inl hC
  · exact .inr ⟨gc, gs, M, e1, e2, e3, hT.le hB⟩
/-- a text that is too long -/
theorem scan_long (s : ByteArray) (hs : 65536 < s.size) (w : World) : Calls Tryz.prog 19 #[.string s] w fun e w' => e = .returned (.tuple #[.slice none 0 0, .int .i64 0, .int .i64 5]) ∧ w = w' := by
  have g0 : (65536 : Int) < (s.size : Int) := by omega
  go_enter Tryz.func19, Tryz.ntmps19
  go_wp2
  exact bodyPost_ret (v := .tuple #[.slice none 0 0, .int .i64 0, .int .i64 5]) (by simp [results, Tryz.results19, go_sem]) rfl ⟨rfl, rfl⟩
theorem sp_bad (s : ByteArray) : ∀ b p l q e, sp s b p l = .bad q e → e ≠ 0
  | 0, p, l, q, e, h => by cases h
  | b + 1, p, l, q, e, h => by
    simp only [sp] at h
    split at h
    · cases h
    · split at h
      · exact sp_bad s b _ _ _ _ h
      · split at h
        · exact sp_bad s b _ _ _ _ h
        · split at h
          · split at h
            · rename_i hne
              injection h with _ h
              rw [← h]; exact hne
            · split at h
              · injection h with _ h; omega
              · exact sp_bad s b _ _ _ _ h
          · split at h
            · split at h
              · injection h with _ h; omega
              · split at h
                · injection h with _ h; omega
                · exact sp_bad s b _ _ _ _ h
            · injection h with _ h; omega
theorem SP_bad {s : ByteArray} {q : Nat} {e : Int} (h : SP s 0 [] = .bad q e) : e ≠ 0 := sp_bad s _ _ _ _ _ h
/-- what a text tells, however long it is -/
def PXX (s : ByteArray) : PRes := if 65536 < s.size then .bad 0 5 else PX s
theorem zero_ret (er p : Int) : True := trivial
set_option maxRecDepth 100000 in
set_option maxHeartbeats 4000000 in
/-- where the scan tells an error -/
theorem parse_err (s : ByteArray) (p er : Int) (he : er ≠ 0) (w : World) (HS : Hid (∀ W, Calls Tryz.prog 19 #[.string s] W fun e w' => e = .returned (.tuple #[.slice none 0 0, .int .i64 p, .int .i64 er]) ∧ Below W.heap.size W w')) :
    Calls Tryz.prog 8 #[.string s] w fun e w' => e = .returned (.tuple #[.agg #[.int .i64 0, .int .i64 0, .int .i64 0, .slice none 0 0, .slice none 0 0, .slice none 0 0], .int .i64 p, .int .i64 er]) ∧ Below w.heap.size w w' := by
  have d0 : (er != 0) = true := by simpa using he
  have B0 : Hid (Below w.heap.size w (w.alloc zero6)) := bl_al (Below.refl _ _) _
  have H0 : Hid ((w.alloc zero6).heap[w.heap.size]? = some zero6 ∧ w.heap.size < (w.alloc zero6).heap.size) := ⟨heap_alloc_new w zero6, by simp⟩
  unfold zero6 at B0 H0
  go_enter Tryz.func8, Tryz.ntmps8
  go_wp2_with fail
  refine (HS.out _).mono ?_
  rintro e w2 ⟨rfl, hB⟩
  have B2 := Lib.hid (bl_tr B0.out hB)
  have hq := (hB.block _ H0.out.2).trans H0.out.1
  obtain ⟨z0, z1, z2, z3, z4, z5⟩ := ip.box6 hq
  have zf := ip.fr6 hq
  have f0 := zf 0; have f1 := zf 1; have f2 := zf 2; have f3 := zf 3; have f4 := zf 4; have f5 := zf 5
  have R6 := Lib.hid (ip.box6 (ip.six hq (.int .i64 0) (.int .i64 0) (.int .i64 0) (.slice none 0 0) (.slice none 0 0) (.slice none 0 0)))
  have BF := Lib.hid (ip.six_below B2.out (Nat.le_refl _) (.int .i64 0) (.int .i64 0) (.int .i64 0) (.slice none 0 0) (.slice none 0 0) (.slice none 0 0))
  clear HS hB B0 H0 hq zf
  go_wp2
  obtain ⟨r0, r1, r2, r3, r4, r5⟩ := R6.out
  exact bodyPost_ret (v := .tuple #[.agg #[.int .i64 0, .int .i64 0, .int .i64 0, .slice none 0 0, .slice none 0 0, .slice none 0 0], .int .i64 p, .int .i64 er]) (by simp [results, Tryz.results8, go_sem, r0, r1, r2, r3, r4, r5]) rfl ⟨rfl, BF.out⟩
end Go.Proofs.YtegieoajjfodcaaGreatDoor

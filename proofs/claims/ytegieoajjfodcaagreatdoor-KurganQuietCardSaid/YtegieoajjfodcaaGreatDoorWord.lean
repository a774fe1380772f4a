/-
  word.
-/
import Derived.Test.YtegieoajjfodcaaGreatDoorIx
namespace Go.Proofs.YtegieoajjfodcaaGreatDoor
open Go.RowKit
set_option linter.unusedVariables false
theorem pass_s (b g C : Nat) (T : List Tok) (s : St) (e : Int) (he : e = 0 → (tk T s.p).kind ≠ 3) (w : World) (h : RS b g C T s w) :
    Calls Tryz.prog 45 #[.pointer (some ⟨b, 0, none⟩), .int .i64 e] w fun r w' => (∃ q, r = .returned (.bool q)) ∧ RS b g C T (adv s e) w' ∧ w.grownBy w' (some b) := by
  have hl := h.lt
  have hc := h.cap
  refine (pass_any b g (4 * s.p) (T.length - s.p - 1) (C - s.p - 1) s.f e (fun k => by have := h.form.more hl (he k); omega) (by omega) w h.box1).mono ?_
  rintro r w' ⟨rfl, hW, hC⟩
  exact ⟨⟨_, rfl⟩, h.went he hW hC, grew hC⟩
set_option maxHeartbeats 4000000 in
theorem word_core (b g C : Nat) (T : List Tok) (s : St) (t : Tok) (ht : tk T s.p = t) (xs : List ByteArray) (gx cx : Nat) (w : World) (h : RS b g C T s w) (hn : xs.length ≤ 10) (hc : ∀ j, j < xs.length → w.cell? ⟨gx, j, none⟩ = some (.string (xs[j]?.getD noText)))
    (i : Int) (hi : i = ixF xs t.text 0) :
    Calls Tryz.prog 40 #[.pointer (some ⟨b, 0, none⟩), .slice (some ⟨gx, 0, none⟩) xs.length cx] w fun r w' => r = .returned (.int .i64 i) ∧ RS b g C T (adv s (wf t i)) w' ∧ w.grownBy w' (some b) := by
  obtain ⟨c0, c1, fz⟩ := h.box.cells
  have hl := h.lt
  have hcap := h.cap
  obtain ⟨t0, t1, t2, t3⟩ := h.toks.front hl
  rw [ht] at t0 t1 t2 t3
  obtain ⟨m, hm⟩ : ∃ m, T.length - s.p = m + 1 := ⟨T.length - s.p - 1, by omega⟩
  rw [hm] at c0
  have hx : ∀ j, j < xs.length → (w.alloc (tokO t)).cell? ⟨gx, j, none⟩ = some (.string (xs[j]?.getD noText)) := fun j hj => by
    have q := hc j hj
    have : gx < w.heap.size := World.block_lt_of_cell? w ⟨gx, j, none⟩ q
    rw [World.cell?_of_block (a := ⟨gx, j, none⟩) (Below.heap_alloc w (tokO t) gx this)]; exact q
  have IX := Lib.hid (index_any xs t.text gx cx hn (w.alloc (tokO t)) hx)
  rw [← hi] at IX
  have hR := h.alloc (tokO t)
  have hp : wf t i = 0 → (tk T s.p).kind ≠ 3 := fun q k => by
    unfold wf at q
    rw [ht] at k
    rw [if_pos k] at q
    omega
  have HP := Lib.hid (pass_s b g C T s (wf t i) hp (w.alloc (tokO t)) hR)
  have GA : Hid (w.grownBy (w.alloc (tokO t)) (some b)) := World.grownBy_alloc w _ _
  have k0 := (tok_cells (heap_alloc_new w (tokO t))).1
  have k1 := (tok_cells (heap_alloc_new w (tokO t))).2.1
  unfold tokO at k0 k1
  clear h hx hc hR hl hcap hm hp ht hi hn
  unfold wf at HP ⊢
  by_cases hk : t.kind = 3
  · rw [hk] at t0 k0
    rw [if_pos hk] at HP ⊢
    unfold tokO at IX HP GA
    rw [hk] at IX HP GA
    clear hk
    go_enter Tryz.func40, Tryz.ntmps40
    go_wp2_with fail
    refine IX.out.mono ?_
    rintro r w2 ⟨rfl, rfl⟩
    go_wp2_with fail
    refine HP.out.mono ?_
    rintro r w3 ⟨⟨q, rfl⟩, hW, hG⟩
    have FN := Lib.hid (And.intro hW (GA.out.trans hG))
    clear hW hG HP IX GA
    go_wp2
    go_ret
    exact ⟨rfl, FN.out⟩
  · rw [if_neg hk] at HP ⊢
    have d0 : (t.kind == 3) = false := by simpa using hk
    clear hk
    unfold tokO at IX HP GA
    by_cases h0 : i < 0
    · rw [if_pos h0] at HP ⊢
      go_enter Tryz.func40, Tryz.ntmps40
      go_wp2_with fail
      refine IX.out.mono ?_
      rintro r w2 ⟨rfl, rfl⟩
      go_wp2_with fail
      refine HP.out.mono ?_
      rintro r w3 ⟨⟨q, rfl⟩, hW, hG⟩
      have FN := Lib.hid (And.intro hW (GA.out.trans hG))
      clear hW hG HP IX GA
      go_wp2
      go_ret
      exact ⟨rfl, FN.out⟩
    · rw [if_neg h0] at HP ⊢
      go_enter Tryz.func40, Tryz.ntmps40
      go_wp2_with fail
      refine IX.out.mono ?_
      rintro r w2 ⟨rfl, rfl⟩
      go_wp2_with fail
      refine HP.out.mono ?_
      rintro r w3 ⟨⟨q, rfl⟩, hW, hG⟩
      have FN := Lib.hid (And.intro hW (GA.out.trans hG))
      clear hW hG HP IX GA
      go_wp2
      go_ret
      exact ⟨rfl, FN.out⟩
end Go.Proofs.YtegieoajjfodcaaGreatDoor

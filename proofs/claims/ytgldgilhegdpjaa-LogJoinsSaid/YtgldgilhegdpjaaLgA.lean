/-
  log.Log.Add, Len and All of no log; Add of a log.
-/
import Derived.Test.YtgldgilhegdpjaaLg2
import Derived.Deep.RegionLaw
namespace Go.Proofs.Ytgldgilhegdpjaa
open Go.RowKit
set_option linter.unusedVariables false
theorem none_any (w : World) : Calls Try.prog 6 #[] w fun e w' => e = .returned (.pointer none) ∧ w = w' := by
  go_enter Try.func6, Try.ntmps6
  go_wp2
  go_ret
  exact ⟨rfl, rfl⟩
theorem len_none (w : World) : Calls Try.prog 10 #[.pointer none] w fun e w' => e = .returned (.int .i64 0) ∧ w = w' := by
  go_enter Try.func10, Try.ntmps10
  go_wp2
  go_ret
  exact ⟨rfl, rfl⟩
theorem all_none (w : World) : Calls Try.prog 11 #[.pointer none] w fun e w' => e = .returned (.slice none 0 0) ∧ w = w' := by
  go_enter Try.func11, Try.ntmps11
  go_wp2
  go_ret
  exact ⟨rfl, rfl⟩
theorem add_none (b : Int) (w : World) : Calls Try.prog 7 #[.pointer none, .int .i64 b, .slice none 0 0] w fun e w' => e = .returned (.tuple #[]) ∧ w = w' := by
  go_enter Try.func7, Try.ntmps7
  go_wp2
  refine bodyPost_end (results_none rfl _ _ _) rfl ?_
  exact ⟨rfl, rfl⟩
theorem cell1 {w : World} {p : Nat} {v : Value} {t : TypeId} (h : w.heap[p]? = some (.cells #[v] t (0, 0))) : w.cell? ⟨p, 0, none⟩ = some v ∧ ∀ j, w.frozen? ⟨p, j, none⟩ = false :=
  ⟨(cell_of_row w p 0 _ t _ h).trans rfl, fun j => by simp [World.frozen?, h]⟩
theorem row_sl {w : World} {B : Nat} {T : TypeId} {k n : Nat} {v : Value} {xs : List Value} (h : w.ownsRow B T k v n xs) : ∃ a c, v = .slice a n c := by
  rcases h.2 with ⟨h1, h2⟩ | ⟨g, cap, cur, h1, _⟩
  · subst h2; exact ⟨_, _, h1⟩
  · exact ⟨_, _, h1⟩
theorem len_any (q : Nat) (v : Value) (n : Nat) (w : World) (hq : w.heap[q]? = some (.cells #[v] 43 (0, 0))) (hv : ∃ a c, v = .slice a n c) : Calls Try.prog 10 #[.pointer (some ⟨q, 0, none⟩)] w fun e w' => e = .returned (.int .i64 (n : Int)) ∧ w = w' := by
  obtain ⟨a, c, rfl⟩ := hv
  obtain ⟨c0, cf⟩ := cell1 hq
  clear hq cf
  go_enter Try.func10, Try.ntmps10
  go_wp2
  go_ret
  exact ⟨rfl, rfl⟩
def AddP (q B : Nat) (b : Int) (ks : List (Int × Value)) (l : List Int) (w : World) (e : Ending) (w' : World) : Prop := ∃ v' p', e = .returned (.tuple #[]) ∧ w'.heap[q]? = some (.cells #[v'] 43 (0, 0)) ∧ w'.ownsRow B 36 2 v' (ks ++ [(b, p')]).length (enc (ks ++ [(b, p')])) ∧ Lst w.heap.size p' l w' ∧ Fr B (fun t => t = 36 ∨ t = 43) w w'
set_option maxHeartbeats 4000000 in
theorem add_any {q B D : Nat} {b : Int} {v p : Value} {ks : List (Int × Value)} {l : List Int} {w : World} (hq : w.heap[q]? = some (.cells #[v] 43 (0, 0))) (ho : w.ownsRow B 36 2 v ks.length (enc ks)) (hl : Lst D p l w) (hB : B ≤ q) (hn : ks.length ≤ 1000) (hll : l.length ≤ 1000) :
    Calls Try.prog 7 #[.pointer (some ⟨q, 0, none⟩), .int .i64 b, p] w (AddP q B b ks l w) := by
  obtain ⟨i0, hi, hz0, hz1, hz2⟩ := info_parts info36
  obtain ⟨a, n, c, rfl⟩ := hl.form
  obtain ⟨va, vc, rfl⟩ := row_sl ho
  obtain ⟨c0, cf⟩ := cell1 hq
  have hBw : B ≤ w.heap.size := by have := lt_hp hq; omega
  have CP := Lib.hid (copied_any D (.slice a n c) b l w.drew (hl.up (bl_drew w)) hll)
  have FX := Lib.hid (fun w3 p' (hl2 : Lst w.drew.heap.size p' l w3) (hb2 : Below w.drew.heap.size w.drew w3) => show (∃ a' n' c', p' = .slice a' n' c') ∧ w3.cell? ⟨q, 0, none⟩ = some (.slice va ks.length vc) ∧ w3.heap[q]? = some (.cells #[.slice va ks.length vc] 43 (0, 0)) ∧ w3.ownsRow B 36 2 (.slice va ks.length vc) ks.length (enc ks) ∧ Lst w.heap.size p' l w3 ∧ Fr B (fun t => t = 36 ∨ t = 43) w w3 from
    ⟨hl2.form, (cell1 ((hb2.block _ (lt_hp hq)).trans hq)).1, (hb2.block _ (lt_hp hq)).trans hq, (Fr.of (B := 0) (P := fun _ => False) hb2).row ho (fun h => h), hl2, Fr.of (show Below w.heap.size w w3 from ⟨hb2.os, hb2.tape, hb2.output, hb2.size, hb2.block⟩)⟩)
  clear hl ho hq cf
  go_enter Try.func7, Try.ntmps7
  go_upto_region 1 with fail
  go_region_law (first
    | (go_simp; go_at_call 18; (with_reducible refine CP.out.mono ?_); rintro e w3 ⟨p', rfl, hl2, hb2⟩; obtain ⟨⟨a', n', c', rfl⟩, d0, dq, dro, dl, df⟩ := FX.out w3 p' hl2 hb2; have d1 := (cell1 ((heap_alloc_old w3 (.cells #[.int .i64 b, .slice a' n' c'] 36) (lt_hp dq)).trans dq)).1; have hsz := df.size; have DQ := Lib.hid dq; have DRO := Lib.hid dro; have DL := Lib.hid dl; have DF := Lib.hid df; clear hl2 hb2 dq dro dl df)
    | (refine step_append_lies _ (by rfl) _ _ _ (by rfl) B 36 i0 (.agg #[.int .i64 0, .slice none 0 0]) 2 32 Try.underlying30 hi hz0 hz1 hz2 rfl (by decide) _ ks.length _ (by rfl) (DRO.out.alloc _) ⟨w3.heap.size, 0, none⟩ 1 1 [.int .i64 b, .slice a' n' c'] (by rfl) rfl (rec_new _ _ _ _) (by simp [Value.oneCell']) (by decide) (by unfold maxLen; omega) (by omega) (by simp; omega) _ rfl ?_; intro g2 cap2 w4 ho2 hg2 _ _; have F4 := Lib.hid (app_fr (B := B) DRO.out (Nat.le_refl _) hg2); have DQ4 := Lib.hid (F4.out.blk DQ.out (.inl (by decide))); obtain ⟨k0, kf⟩ := cell1 DQ4.out; have kf0 := kf 0; have O4 := Lib.hid (enc_snoc rfl ho2); clear ho2 hg2 kf)
    | fail)
  all_goals
    have E5 : (w4.setCell ⟨q, 0, none⟩ (.slice (some ⟨g2, 0, none⟩) (ks.length + 1) cap2)).heap[q]? = some (.cells #[.slice (some ⟨g2, 0, none⟩) (ks.length + 1) cap2] 43 (0, 0)) := (blk_set DQ4.out 0 (.slice (some ⟨g2, 0, none⟩) (ks.length + 1) cap2)).trans rfl
    have F5 : Fr B (fun t => t = 43) w4 (w4.setCell ⟨q, 0, none⟩ (.slice (some ⟨g2, 0, none⟩) (ks.length + 1) cap2)) := ⟨[q], (Tw.refl _ w4).st q (.inl (by simp)) 0 _, fun i hi => by simp at hi; subst hi; exact ⟨hB, .inr ⟨_, _, DQ4.out, rfl⟩⟩⟩
    refine bodyPost_end (results_none rfl _ _ _) rfl ?_
    exact ⟨_, _, rfl, E5, F5.row O4.out (by decide), F5.lst (F4.out.lst DL.out (by decide)) (by decide), (DF.out.trans (F4.out.mono (fun t h => .inl h))).trans (F5.mono (fun t h => .inr h))⟩
end Go.Proofs.Ytgldgilhegdpjaa

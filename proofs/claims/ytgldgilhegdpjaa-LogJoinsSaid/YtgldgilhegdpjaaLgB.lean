/-
  log.Log.All of a log.
-/
import Derived.Test.YtgldgilhegdpjaaLgA
namespace Go.Proofs.Ytgldgilhegdpjaa
open Go.RowKit
set_option linter.unusedVariables false
/-- one record in memory -/
theorem row_at {w : World} {B : Nat} {T : TypeId} {va : Option Addr} {n vc : Nat} {ks : List (Int × Value)} (h : w.ownsRow B T 2 (.slice va n vc) ks.length (enc ks)) {k : Nat} (hk : k < ks.length) : ∃ g b p, va = some ⟨g, 0, none⟩ ∧ ks[k]? = some (b, p) ∧ B ≤ g ∧ g < w.heap.size ∧ ∀ W : World, W.heap[g]? = w.heap[g]? → W.cell? ⟨g, k * 2, none⟩ = some (.int .i64 b) ∧ W.cell? ⟨g, k * 2 + 1, none⟩ = some p ∧ ∀ j, W.frozen? ⟨g, j, none⟩ = false := by
  obtain ⟨b, p, hbp⟩ : ∃ b p, ks[k]? = some (b, p) := ⟨_, _, List.getElem?_eq_getElem hk⟩
  have hl := h.lt
  rcases h.2 with ⟨h1, h2⟩ | ⟨g, cap, cur, h1, h2, h3, h4⟩
  · omega
  · cases h1
    obtain ⟨e1, e2⟩ := enc_get ks k (b, p) hbp
    refine ⟨g, b, p, rfl, hbp, h2, lt_hp h3, fun W hW => ?_⟩
    have hc : ∀ j, W.cell? ⟨g, j, none⟩ = w.cell? ⟨g, j, none⟩ := fun j => by simp [World.cell?, hW]
    refine ⟨by rw [hc, h.cellAt (k * 2) (by omega)]; exact e1, by rw [hc, h.cellAt (k * 2 + 1) (by omega)]; exact e2, fun j => by simp [World.frozen?, hW, h3]⟩
theorem take_snoc {α : Type} {l : List α} {k : Nat} {x : α} (h : l[k]? = some x) : l.take (k + 1) = l.take k ++ [x] := by
  obtain ⟨hk, e⟩ := List.getElem?_eq_some_iff.1 h
  rw [List.take_succ_eq_append_getElem hk, e]
def AllP (N : Nat) (T : TypeId) (rs : List Rec) (w : World) (e : Ending) (w' : World) : Prop := ∃ v' ks', e = .returned v' ∧ w'.ownsRow N T 2 v' ks'.length (enc ks') ∧ Ps N ks' rs w' ∧ Below N w w'
set_option maxRecDepth 100000 in
set_option maxHeartbeats 8000000 in
theorem all_any {q B C : Nat} {v : Value} {ks : List (Int × Value)} {rs : List Rec} {w : World} (hq : w.heap[q]? = some (.cells #[v] 43 (0, 0))) (ho : w.ownsRow B 36 2 v ks.length (enc ks)) (hp : Ps C ks rs w) (hn : ks.length ≤ 1000) :
    Calls Try.prog 11 #[.pointer (some ⟨q, 0, none⟩)] w (AllP w.heap.size 36 rs w) := by
  obtain ⟨i0, hi, hz0, hz1, hz2⟩ := info_parts info36
  obtain ⟨va, vc, rfl⟩ := row_sl ho
  have hlt := lt_hp hq
  have C0 := Lib.hid (fun W (h : Below w.heap.size w W) => (cell1 ((h.block _ hlt).trans hq)).1)
  have HR := Lib.hid (fun k (hk : k < ks.length) => row_at ho hk)
  have HP := Lib.hid hp
  have HL := Lib.hid hp.1
  clear hq hlt
  obtain ⟨n, hkn⟩ : ∃ n, ks.length = n := ⟨_, rfl⟩
  rw [hkn] at hn ho HR HL C0
  clear ho hp
  have c0 := C0.out w (Below.refl _ _)
  go_enter Try.func11, Try.ntmps11
  go_wp2_with (at_make; refine wpList_make_own _ rfl _ _ 30 rfl w.heap.size 36 i0 (.agg #[.int .i64 0, .slice none 0 0]) 2 Try.underlying30 hi hz0 hz1 .i64 .i64 _ n rfl rfl rfl (by rw [hz2]; omega) (by unfold maxLen; omega) (Nat.le_refl _) ?_)
  intro w1 ho1 hg1
  have B1 := Lib.hid (show Below w.heap.size w w1 from ⟨hg1.os, hg1.tape, hg1.output, hg1.size, fun k hk => hg1.block k hk (by simp)⟩)
  have O1 := Lib.hid ho1
  have c1 := C0.out w1 B1.out
  clear hg1 ho1 c0 C0
  go_wp2_with fail
  go_loopw [3, 19] (fun o i wr => ∃ (k : Nat) (ks' : List (Int × Value)), k ≤ n ∧ i = .int .i64 k ∧ ks'.length = k ∧ Hid (wr.ownsRow w.heap.size 36 2 o k (enc ks')) ∧ Hid (Ps w.heap.size ks' (rs.take k) wr) ∧ Hid (Below w.heap.size w wr)) (fun _ i _ => n - (intOf i).toNat)
  case atStart => exact ⟨0, [], by omega, rfl, rfl, O1, Lib.hid (Ps.nil _ _), B1⟩
  case round =>
    obtain ⟨k, ks', hk, rfl, hkl, O, P, BW⟩ := hrel
    clear O1 B1 c1
    by_cases hlt : k < n
    · have i1 : (k : Int) < (n : Int) := by omega
      have hwk : IntKind.i64.wrap ((k : Int) + 1) = (k : Int) + 1 := IntWalk.i64_in _ (by omega)
      obtain ⟨g, b, p, rfl, hbp, hBg, hg, hc⟩ := HR.out k hlt
      obtain ⟨b', l, hbl⟩ : ∃ b' l, rs[k]? = some (b', l) := ⟨_, _, List.getElem?_eq_getElem (by rw [← HL.out]; exact hlt)⟩
      obtain ⟨e1, hl, h20⟩ := HP.out.2 k _ _ hbp hbl
      have e1 : b = b' := e1
      subst e1
      have hl : Lst C p l w := hl
      have h20 : l.length ≤ 20 := h20
      obtain ⟨pa, pn, pc, rfl⟩ := hl.form
      obtain ⟨d0, d1, df⟩ := hc wr (BW.out.block g hg)
      have hws := BW.out.size
      have CP := Lib.hid (fun W (h : Below w.heap.size w W) => copied_any C (.slice pa pn pc) b l W (hl.up h) (by omega))
      have TS := Lib.hid (take_snoc hbl)
      clear hl hc hbl hbp df
      have BB := Lib.hid (show Below w.heap.size w (wr.alloc (.cells #[.int .i64 b, .slice pa pn pc] 36)) from BW.out.trans ((bl_al (Below.refl _ wr) _).mono hws))
      have BA := Lib.hid (bl_al (Below.refl wr.heap.size wr) (.cells #[.int .i64 b, .slice pa pn pc] 36))
      go_wp2_with fail
      refine (CP.out _ BB.out).mono ?_; rintro e w3 ⟨p', rfl, hl2, hb2⟩
      obtain ⟨a', n', c', rfl⟩ := hl2.form
      have BW3 := Lib.hid (bl_tr BA.out hb2)
      have L3 := Lib.hid (hl2.mono (show w.heap.size ≤ _ from BB.out.size))
      have O3 := Lib.hid ((Fr.of (B := 0) (P := fun _ => False) BW3.out).row O.out (fun h => h))
      have P3 := Lib.hid (P.out.up BW3.out)
      have hbs : w.heap.size ≤ (w3.alloc (.cells #[.int .i64 b, .slice a' n' c'] 36)).heap.size := by rw [World.size_alloc]; have := BW3.out.size; omega
      clear hl2 hb2 CP O P d0 d1 BB BA
      go_wp2_with (at_builtin; refine wpList_append_own _ rfl _ _ 30 rfl w.heap.size 36 i0 (.agg #[.int .i64 0, .slice none 0 0]) 2 32 Try.underlying30 hi hz0 hz1 hz2 rfl (by decide) _ k _ rfl (O3.out.alloc _) ⟨w3.heap.size, 0, none⟩ 1 1 [.int .i64 b, .slice a' n' c'] rfl rfl (rec_new _ _ _ _) (by simp [Value.oneCell']) (by unfold maxLen; omega) (by omega) hbs ?_)
      intro v4 w4 ho4 hg4 _
      have F4 := Lib.hid (app_fr (B := w.heap.size) O3.out (Nat.le_refl _) hg4)
      have O4 := Lib.hid (enc_snoc hkl ho4)
      have P4 := Lib.hid ((P3.out.fr F4.out (by decide)).snoc b _ l (F4.out.lst L3.out (by decide)) h20)
      have B4 := Lib.hid (F4.out.below (BW.out.trans (BW3.out.mono hws)) (by have := BW3.out.size; omega))
      rw [← TS.out] at P4
      clear ho4 hg4 hbs O3 P3 L3 F4 BW3 BW
      go_wp2_with fail
      go_roundw
      case rel => exact ⟨k + 1, ks' ++ [(b, .slice a' n' c')], by omega, by go_num, by simp [hkl], by have h := O4.out; rw [show (ks' ++ [(b, Value.slice a' n' c')]).length = k + 1 by simp [hkl]] at h; exact Lib.hid h, P4, B4⟩
      case measure => simp [intOf]; omega
    · have i1 : ¬ (k : Int) < (n : Int) := by omega
      obtain rfl : k = n := by omega
      have T := Lib.hid (show rs.take k = rs by rw [HL.out]; exact List.take_length)
      go_wp2
      go_ret
      exact ⟨_, ks', rfl, by rw [hkl]; exact O.out, by have h := P.out; rw [T.out] at h; exact h, BW.out⟩
end Go.Proofs.Ytgldgilhegdpjaa

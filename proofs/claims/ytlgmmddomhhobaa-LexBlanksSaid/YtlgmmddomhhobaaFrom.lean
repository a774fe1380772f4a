/-
  Tokens copied into the reference's (from), and compared (the reference's Same).
-/
import Derived.Test.YtlgmmddomhhobaaLexes
import Derived.Deep.RegionHeld3
import Derived.Deep.AppendLies
import Derived.Deep.QuietTactic
import Derived.BigQuiet
namespace Go.Proofs.Ytlgmmddomhhobaa
open Go.RowKit
set_option linter.unusedVariables false
theorem encL_len : ∀ l : List Tok, (encL l).length = l.length * 4
  | [] => rfl
  | a :: l => by have := encL_len l; simp [encL, encT] at this ⊢; omega
theorem encL_get : ∀ (l : List Tok) (i : Nat) (t : Tok) (j : Nat) (u : Value), l[i]? = some t → (encT t)[j]? = some u → (encL l)[i * 4 + j]? = some u
  | [], i, t, j, u, h, _ => by simp at h
  | a :: l, 0, t, j, u, h, h2 => by
    simp at h; subst h
    have hj : j < 4 := (List.getElem?_eq_some_iff.1 h2).1
    show (encT a ++ encL l)[0 * 4 + j]? = some u
    rw [List.getElem?_append_left (by show 0 * 4 + j < 4; omega), show 0 * 4 + j = j by omega]; exact h2
  | a :: l, i + 1, t, j, u, h, h2 => by
    have := encL_get l i t j u (by simpa using h) h2
    show (encT a ++ encL l)[(i + 1) * 4 + j]? = some u
    rw [List.getElem?_append_right (by show 4 ≤ (i + 1) * 4 + j; omega), show (i + 1) * 4 + j - (encT a).length = i * 4 + j by show (i + 1) * 4 + j - 4 = i * 4 + j; omega]; exact this
/-- tokens in memory, to be read -/
def TL (w : World) (v : Value) (l : List Tok) : Prop := (l = [] ∧ ∃ a c, v = .slice a 0 c) ∨ ∃ g cap, v = .slice (some ⟨g, 0, none⟩) l.length cap ∧ g < w.heap.size ∧ ∀ i t j u, l[i]? = some t → (encT t)[j]? = some u → w.cell? ⟨g, i * 4 + j, none⟩ = some u
theorem TL_of {w : World} {B : Nat} {T : TypeId} {v : Value} {l : List Tok} (h : w.ownsRow B T 4 v l.length (encL l)) : TL w v l := by
  by_cases hl : l = []
  · subst hl
    rcases h.2 with ⟨rfl, _⟩ | ⟨g, cap, cur, rfl, _⟩
    · exact .inl ⟨rfl, none, 0, rfl⟩
    · exact .inl ⟨rfl, _, cap, rfl⟩
  · have hp : 0 < l.length := List.length_pos_iff.2 hl
    obtain ⟨g, cap, rfl, h1, h2⟩ := h.form (by omega)
    refine .inr ⟨g, cap, rfl, h2, fun i t j u hi hj => ?_⟩
    have hj4 : j < 4 := (List.getElem?_eq_some_iff.1 hj).1
    have hil : i < l.length := (List.getElem?_eq_some_iff.1 hi).1
    rw [h.cellAt (i * 4 + j) (by omega)]; exact encL_get l i t j u hi hj
theorem TL.up {w w' : World} {v : Value} {l : List Tok} (h : TL w v l) (hb : Below w.heap.size w w') : TL w' v l := by
  rcases h with h | ⟨g, cap, hv, hg, hc⟩
  · exact .inl h
  · exact .inr ⟨g, cap, hv, Nat.lt_of_lt_of_le hg hb.size, fun i t j u hi hj => cell_up hb hg (hc i t j u hi hj)⟩
theorem TL.len {w : World} {v : Value} {l : List Tok} (h : TL w v l) : ∃ a c, v = .slice a l.length c := by
  rcases h with ⟨rfl, a, c, hv⟩ | ⟨g, cap, hv, _⟩
  · exact ⟨a, c, hv⟩
  · exact ⟨_, cap, hv⟩
theorem TL.at {w : World} {a : Option Addr} {n c : Nat} {l : List Tok} (h : TL w (.slice a n c) l) (i : Nat) (hi : i < l.length) : ∃ g, a = some ⟨g, 0, none⟩ ∧ g < w.heap.size ∧ w.cell? ⟨g, i * 4, none⟩ = some (.int .i64 l[i].kind) ∧ w.cell? ⟨g, i * 4 + 1, none⟩ = some (.string l[i].text) ∧ w.cell? ⟨g, i * 4 + 2, none⟩ = some (.int .i64 l[i].num) ∧ w.cell? ⟨g, i * 4 + 3, none⟩ = some (.int .i64 l[i].at_) := by
  rcases h with ⟨rfl, _⟩ | ⟨g, cap, hv, hg, hc⟩
  · simp at hi
  · have e := List.getElem?_eq_getElem hi
    injection hv with h1 h2 h3
    exact ⟨g, h1, hg, hc i _ 0 _ e rfl, hc i _ 1 _ e rfl, hc i _ 2 _ e rfl, hc i _ 3 _ e rfl⟩
theorem own_tok2 {w : World} {B : Nat} {v : Value} {l : List Tok} {k : Nat} {t : Tok} (hk : k < l.length) (ht : l[k] = t) (h : w.ownsRow B 47 4 v (k + 1) (encL (l.take k) ++ encT t)) : w.ownsRow B 47 4 v (k + 1) (encL (l.take (k + 1))) := by
  rw [List.take_succ_eq_append_getElem hk, ht, encL_app]; exact h
set_option maxRecDepth 100000 in
set_option maxHeartbeats 2000000 in
theorem from_any (v : Value) (l : List Tok) (w : World) (hT : TL w v l) (hn : l.length ≤ 70000) : Calls Try.prog 11 #[v] w fun e w' => ∃ v2, e = .returned v2 ∧ TL w' v2 l ∧ Below w.heap.size w w' := by
  obtain ⟨i0, hi, hz0, hz1, hz2⟩ := info_parts infoR
  obtain ⟨a, c, rfl⟩ := hT.len
  obtain ⟨n, hln⟩ : ∃ n, l.length = n := ⟨_, rfl⟩
  rw [hln] at hT hn ⊢
  have HT := Lib.hid hT
  clear hT
  go_enter Try.func11, Try.ntmps11
  go_wp2
  go_loopw [3, 4] (fun o iv wr => ∃ k, k ≤ n ∧ iv = .int .i64 (k : Nat) ∧ Hid (wr.ownsRow w.heap.size 47 4 o k (encL (l.take k))) ∧ Hid (Below w.heap.size w wr)) (fun _ iv _ => n - (intOf iv).toNat)
  case atStart => exact ⟨0, by omega, rfl, Lib.hid (World.ownsRow_nil _ _ _ _), Lib.hid (Below.refl _ _)⟩
  case round =>
    obtain ⟨k, hk, rfl, HO, HB⟩ := hrel
    by_cases hlt : k < n
    · have h1 : (k : Int) < (n : Int) := by omega
      obtain ⟨g, rfl, hg, c0, c1, c2, c3⟩ := HT.out.at k (by omega)
      obtain ⟨t, ht⟩ : ∃ t, l[k]'(by omega) = t := ⟨_, rfl⟩
      rw [ht] at c0 c1 c2 c3
      have HC : Hid (∀ W, Below w.heap.size w W → W.cell? ⟨g, k * 4, none⟩ = some (.int .i64 t.kind) ∧ W.cell? ⟨g, k * 4 + 1, none⟩ = some (.string t.text) ∧ W.cell? ⟨g, k * 4 + 2, none⟩ = some (.int .i64 t.num) ∧ W.cell? ⟨g, k * 4 + 3, none⟩ = some (.int .i64 t.at_)) := Lib.hid fun W hb => ⟨cell_up hb hg c0, cell_up hb hg c1, cell_up hb hg c2, cell_up hb hg c3⟩
      clear c0 c1 c2 c3
      have hbs := HB.out.size
      have HB1 := Lib.hid HB.out.drew
      have HO1 := Lib.hid (ownsRow_up (w' := wr.drew) HO.out ⟨rfl, rfl, rfl, Nat.le_refl _, fun _ _ => rfl⟩)
      have K0 := Lib.hid (HC.out _ HB1.out)
      have K1 := Lib.hid (HC.out (wr.drew.alloc (.cells #[.int .i64 t.kind, .string t.text, .int .i64 t.num, .int .i64 t.at_] 47)) (HB1.out.trans ⟨rfl, rfl, rfl, by simp, fun j hj => heap_alloc_old _ _ (Nat.lt_of_lt_of_le hj hbs)⟩))
      clear HB HO
      have hbs : w.heap.size ≤ (wr.drew.alloc (.cells #[.int .i64 t.kind, .string t.text, .int .i64 t.num, .int .i64 t.at_] 47)).heap.size := by rw [World.size_alloc]; have := HB1.out.size; omega
      go_wp2
      go_region_held3 (fun w' => w'.cell? ⟨g, k * 4, none⟩ = some (.int .i64 t.kind) ∧ w'.cell? ⟨g, k * 4 + 1, none⟩ = some (.string t.text) ∧ w'.cell? ⟨g, k * 4 + 2, none⟩ = some (.int .i64 t.num) ∧ w'.cell? ⟨g, k * 4 + 3, none⟩ = some (.int .i64 t.at_))
        (first | exact K0.out | exact K1.out | exact K3.out)
        (first
          | (refine step_append_lies _ (by rfl) _ _ _ (by rfl) w.heap.size 47 i0 (.agg #[.int .i64 0, .string ⟨#[]⟩, .int .i64 0, .int .i64 0]) 4 40 Try.underlying27 hi hz0 hz1 hz2 rfl (by decide) _ k _ (by rfl) (HO1.out.alloc _) ⟨wr.heap.size, 0, none⟩ 1 1 [.int .i64 t.kind, .string t.text, .int .i64 t.num, .int .i64 t.at_] (by rfl) rfl (tok_new _ _ _ _ _ _) (by simp [Value.oneCell']) (by decide) (by unfold maxLen; omega) (by omega) hbs _ rfl ?_; intro g2 cap2 w2 ho2 hg2 _ _; have HB3 := Lib.hid (below_app HB1.out HO1.out hg2); have HO3 := Lib.hid (own_tok2 (by omega) ht ho2); have K3 := Lib.hid (HC.out _ HB3.out); clear ho2 hg2)
          | fail)
      clear HB1 HO1 hbs K0 K1 K3
      go_wp2
      go_roundw
      case rel => exact ⟨k + 1, by omega, by go_num, HO3, HB3⟩
      case measure => simp [intOf]; omega
    · have h1 : ¬ (k : Int) < (n : Int) := by omega
      obtain rfl : k = n := by omega
      go_wp2
      go_ret
      refine ⟨_, rfl, ?_, HB.out⟩
      have := HO.out
      rw [List.take_of_length_le (by omega), ← hln] at this
      exact TL_of this
end Go.Proofs.Ytlgmmddomhhobaa

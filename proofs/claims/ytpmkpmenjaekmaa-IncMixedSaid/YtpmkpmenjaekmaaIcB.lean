/-
  Lists that are kept; what Clone, Over, Taken, read, Look, Best and Offer answer.
-/
import Derived.Test.YtpmkpmenjaekmaaIcA
import Derived.Lib.SliceRun
namespace Go.Proofs.Ytpmkpmenjaekmaa
open Go.RowKit Go.MuLone
set_option linter.unusedVariables false
/-- a list in memory, whole, in a block from B on -/
def Lst (B : Nat) (v : Value) (l : List Int) (w : World) : Prop := (v = .slice none 0 0 ∧ l = []) ∨ ∃ g cap cur, v = .slice (some ⟨g, 0, none⟩) l.length cap ∧ B ≤ g ∧ l.length ≤ cap ∧ cap ≤ 9223372036854775807 ∧ w.heap[g]? = some (.cells cur 3 (0, 0)) ∧ ∀ j, j < l.length → w.cell? ⟨g, j, none⟩ = some (.int .i64 (nth l j))
theorem Lst.keep {B : Nat} {v : Value} {l : List Int} {S : List Nat} {w w1 : World} (h : Lst B v l w) (k : Tw S w w1) (hS : ∀ i, i ∈ S → i < B ∨ ∃ c t, w.heap[i]? = some (.cells c t (0, 0)) ∧ t ≠ 3) : Lst B v l w1 := by
  rcases h with h | ⟨g, cap, cur, h1, h2, h3, h4, h5, h6⟩
  · exact .inl h
  · have hg : g ∉ S := fun hm => by
      rcases hS g hm with h | ⟨c, t, hc, ht⟩
      · omega
      · rw [h5] at hc
        injection hc with hc
        injection hc with _ hc _
        exact ht hc.symm
    exact .inr ⟨g, cap, cur, h1, h2, h3, h4, blk_tw h5 k hg, fun j hj => (cell_tw k (lt_hp h5) hg j).trans (h6 j hj)⟩
theorem Lst.mono {B C : Nat} {v : Value} {l : List Int} {w : World} (h : Lst B v l w) (hc : C ≤ B) : Lst C v l w := by
  rcases h with h | ⟨g, cap, cur, h1, h2, h3⟩
  · exact .inl h
  · exact .inr ⟨g, cap, cur, h1, by omega, h3⟩
theorem Lst.form {B : Nat} {v : Value} {l : List Int} {w : World} (h : Lst B v l w) : ∃ a n c, v = .slice a n c := by
  rcases h with h | ⟨g, cap, cur, h1, h2, h3⟩
  · exact ⟨_, _, _, h.1⟩
  · exact ⟨_, _, _, h1⟩
theorem Lst.up {B : Nat} {v : Value} {l : List Int} {w w1 : World} (h : Lst B v l w) (k : Below w.heap.size w w1) : Lst B v l w1 := h.keep (Tw.of (S := []) k) (by simp)
theorem Own.lst {B g n cap : Nat} {l : List Int} {w0 w : World} (h : Own B g n cap l w0 w) : Lst B (.slice (some ⟨g, 0, none⟩) n cap) l w := by
  obtain ⟨cur, hc⟩ := h.blk
  have hk := h.cap
  have hl := h.1
  exact .inr ⟨g, cap, cur, by rw [hl], h.2.1, by omega, hk.2, hc, fun j hj => h.cell j (by omega)⟩
set_option maxHeartbeats 1000000 in
theorem clone_any (l : List Int) (b o c : Nat) (hl : l.length ≤ c) (hl2 : l.length ≤ 1000) (hc63 : c ≤ 9223372036854775807) (w : World) (hb : b < w.heap.size) (hI : ∀ j, j < l.length → w.cell? ⟨b, o + j, none⟩ = some (.int .i64 (nth l j))) :
    Calls Try.prog 24 #[.slice (some ⟨b, o, none⟩) l.length c] w fun e w' => ∃ g cap, e = .returned (.slice (some ⟨g, 0, none⟩) l.length cap) ∧ Own w.heap.size g l.length cap l w w' := by
  obtain ⟨i0, hi, hz0, hz1, hz2⟩ := info_parts info3
  have ho := own0 w
  have HNs := Lib.hid (app_src hb hI)
  have HOf := Lib.hid (fun (w1 : World) (g cap : Nat) h1 h2 => own_of (w := w) (w1 := w1) (g := g) (cap := cap) (l := l) h1 h2)
  clear hI
  generalize hn : l.length = n at *
  have HN := Lib.hid hn
  have hnil : ∀ W, (binOp .eql 29 (.slice (some ⟨b, o, none⟩) n c) (.slice none 0 0)).run Try.prog W = .ok (.bool false) W := fun W => Lib.run_eql_slice_nil W _ _ (some ⟨b, o, none⟩) n c 0 0 Try.underlying29
  clear hn
  go_enter Try.func24, Try.ntmps24
  go_wp2_with (at_builtin; refine wpList_append_own _ rfl _ _ 29 rfl w.heap.size 3 i0 (.int .i64 0) 1 8 Try.underlying29 hi hz0 hz1 hz2 rfl (by decide) _ _ _ rfl ho ⟨b, o, none⟩ _ c (l.map (Value.int .i64)) rfl (by simp [HN.out]) HNs.out (by simp [Value.oneCell']) (by unfold maxLen; omega) (by omega) (by simp) ?_)
  intro v' w1 hown hgrow hne
  obtain ⟨g, cap, rfl⟩ := own_form hown hne
  have HB := Lib.hid ((bl_al (Below.refl _ _) _).grown hgrow (by simp) (fun j hj => by simp [Value.ownBlock] at hj; omega) : Below w.heap.size w w1)
  have HO := Lib.hid hown
  clear hgrow hown hne ho HNs
  go_wp2
  go_ret
  exact ⟨g, _, rfl, HOf.out w1 g _ (by simpa using HO.out) HB.out⟩
theorem clone_nil (w : World) : Calls Try.prog 24 #[.slice none 0 0] w fun e w' => e = .returned (.slice none 0 0) ∧ w = w' := by
  have hnil : ∀ W, (binOp .eql 29 (.slice none 0 0) (.slice none 0 0)).run Try.prog W = .ok (.bool true) W := fun W => Lib.run_eql_slice_nil W _ _ none 0 0 0 0 Try.underlying29
  go_enter Try.func24, Try.ntmps24
  go_wp2
  go_ret
  exact ⟨rfl, rfl⟩
theorem clone_l (B : Nat) (v : Value) (l : List Int) (w : World) (h : Lst B v l w) (hl : l.length ≤ 1000) : Calls Try.prog 24 #[v] w fun e w' => ∃ v', e = .returned v' ∧ Lst w.heap.size v' l w' ∧ Below w.heap.size w w' := by
  rcases h with ⟨rfl, rfl⟩ | ⟨g, cap, cur, rfl, h2, h3, h4, h5, h6⟩
  · refine (clone_nil w).mono ?_
    rintro e w' ⟨rfl, rfl⟩
    exact ⟨_, rfl, .inl ⟨rfl, rfl⟩, Below.refl _ _⟩
  · refine (clone_any l g 0 cap h3 hl h4 w (lt_hp h5) (by simpa using h6)).mono ?_
    rintro e w' ⟨g2, cap2, rfl, ho⟩
    exact ⟨_, rfl, ho.lst, ho.2.2.2⟩
/-! what an act, and none, tell -/
theorem over_nil (w : World) : Calls Try.prog 13 #[.pointer none] w fun e w' => e = .returned (.bool true) ∧ w = w' := by
  go_enter Try.func13, Try.ntmps13
  go_wp2
  go_ret
  exact ⟨rfl, rfl⟩
theorem taken_nil (w : World) : Calls Try.prog 15 #[.pointer none] w fun e w' => e = .returned (.bool false) ∧ w = w' := by
  go_enter Try.func15, Try.ntmps15
  go_wp2
  go_ret
  exact ⟨rfl, rfl⟩
section
variable {p q g b kb ia n : Nat} {vs : Nat → Value} {l : List Int} {s : Int} {wk : Int} {xv : Value} {c nx rd : Int} {tk : Bool} {w : World}
theorem over_any (r : Bool) (hr : (nx == 2) = r) (h : Ac p q wk xv c nx rd tk w) : Calls Try.prog 13 #[.pointer (some ⟨p, 0, none⟩)] w fun e w' => e = .returned (.bool r) ∧ w = w' := by
  obtain ⟨c0, c1, c2, c3, c4, c5, c6, fz⟩ := h.cells
  clear h c1 c2 c3 c5 c6 fz
  subst hr
  go_enter Try.func13, Try.ntmps13
  go_wp2
  go_ret
  exact ⟨rfl, rfl⟩
theorem taken_any (h : Ac p q wk xv c nx rd tk w) : Calls Try.prog 15 #[.pointer (some ⟨p, 0, none⟩)] w fun e w' => e = .returned (.bool tk) ∧ w = w' := by
  obtain ⟨c0, c1, c2, c3, c4, c5, c6, fz⟩ := h.cells
  clear h c1 c2 c3 c5 c4 c0 fz
  go_enter Try.func15, Try.ntmps15
  go_wp2
  go_ret
  exact ⟨rfl, rfl⟩
theorem getS (s0 : 0 ≤ s) (s1 : s ≤ 1000000) (h : Si q g b kb ia n vs l s w) :
    Calls Try.prog 38 #[.pointer (some ⟨g, 0, none⟩), .int .i64 ia] w fun e w' => e = .returned (.tuple #[.int .i64 (nth l ia), .int .i64 0]) ∧ Si q g b kb ia n vs l (s + 1) w' ∧ Tw [g, b] w w' := by
  obtain ⟨k, c, o, m, d, hm⟩ := h.mem
  refine (get_ok g b l s k c o m d ia (nth l ia) ia rfl h.len rfl s0 s1 w hm).mono ?_
  intro e w1 hd
  rw [set_self] at hd
  exact h.did hd rfl
theorem peekS (h : Si q g b kb ia n vs l s w) :
    Calls Try.prog 27 #[.pointer (some ⟨g, 0, none⟩), .int .i64 ia] w fun e w' => e = .returned (.int .i64 (nth l ia)) ∧ Si q g b kb ia n vs l s w' ∧ Tw [g, b] w w' := by
  obtain ⟨k, c, o, m, d, hm⟩ := h.mem
  refine (peek_ok g b l s k c o m d ia (nth l ia) ia rfl h.len rfl w hm).mono ?_
  intro e w1 hd
  exact h.did hd rfl
theorem stepsS (h : Si q g b kb ia n vs l s w) :
    Calls Try.prog 19 #[.pointer (some ⟨g, 0, none⟩)] w fun e w' => e = .returned (.int .i64 s) ∧ Si q g b kb ia n vs l s w' ∧ Tw [g, b] w w' := by
  obtain ⟨k, c, o, m, d, hm⟩ := h.mem
  refine (steps_any g b l s k c o m d w hm).mono ?_
  intro e w1 hd
  exact h.did hd rfl
set_option maxHeartbeats 1000000 in
theorem read_any (s0 : 0 ≤ s) (s1 : s ≤ 1000000) (h : Si q g b kb ia n vs l s w) :
    Calls Try.prog 30 #[.pointer (some ⟨q, 0, none⟩)] w fun e w' => e = .returned (.int .i64 (nth l ia)) ∧ Si q g b kb ia n vs l (s + 1) w' ∧ Tw [g, b] w w' := by
  obtain ⟨c0, c1, c2⟩ := h.cells
  have G := Lib.hid (fun W (hW : Si q g b kb ia n vs l s W) => getS s0 s1 hW)
  have F1 := Lib.hid h.dr
  clear h s0 s1 c2
  generalize nth l ia = x at *
  go_enter Try.func30, Try.ntmps30
  go_wp2_with fail
  go_region_held3 (fun w' => w'.cell? ⟨q, 0, none⟩ = some (.pointer (some ⟨g, 0, none⟩)) ∧ w'.cell? ⟨q, 1, none⟩ = some (.int .i64 ia)) (first | exact ⟨c0, c1⟩ | simp [go_sem, c0, c1])
    (first | (go_at_call 38; (with_reducible refine (G.out _ F1.out).mono ?_); rintro e w1 ⟨rfl, f1, f2⟩; have F1 := Lib.hid f1; have F2 := Lib.hid f2; obtain ⟨c0, c1, c2⟩ := f1.cells; clear f1 f2 c2))
  all_goals
    clear G
    go_wp2
    go_ret
    exact ⟨rfl, F1.out, F2.out.undr⟩
theorem look_nil (w : World) : Calls Try.prog 11 #[.pointer none] w fun e w' => e = .returned (.int .i64 0) ∧ w = w' := by
  go_enter Try.func11, Try.ntmps11
  go_wp2
  go_ret
  exact ⟨rfl, rfl⟩
theorem lookN_any (s0 : 0 ≤ s) (s1 : s ≤ 1000000) (h : Si q g b kb ia n vs l s w) :
    Calls Try.prog 11 #[.pointer (some ⟨q, 0, none⟩)] w fun e w' => e = .returned (.int .i64 (nth l ia / 16)) ∧ Si q g b kb ia n vs l (s + 1) w' ∧ Tw [g, b] w w' := by
  have R := Lib.hid (read_any s0 s1 h)
  clear h s0 s1
  generalize nth l ia = x at *
  have C := Lib.hid (fun W => costOf_any x W)
  generalize x / 16 = y at *
  go_enter Try.func11, Try.ntmps11
  go_wp2_with fail
  refine R.out.mono ?_; rintro e w1 ⟨rfl, f1, f2⟩
  have F1 := Lib.hid f1
  have F2 := Lib.hid f2
  clear f1 f2 R
  go_wp2_with fail
  refine (C.out _).mono ?_; rintro e w2 ⟨rfl, rfl⟩
  go_wp2
  go_ret
  exact ⟨rfl, F1.out, F2.out⟩
theorem best_nil (w : World) : Calls Try.prog 9 #[.pointer none] w fun e w' => e = .returned (.tuple #[.slice none 0 0, .int .i64 0]) ∧ w = w' := by
  go_enter Try.func9, Try.ntmps9
  go_wp2
  go_ret2
  exact ⟨rfl, rfl⟩
set_option maxHeartbeats 4000000 in
theorem best_any (B wh : Nat) (X : List Int) (hX : X.length ≤ 1000) (hw : nth l ia % 16 = (wh : Int)) (hwn : wh < n) (hB : b < B) (h : Si q g b kb ia n vs l s w) (hL : Lst B (vs wh) X w) :
    Calls Try.prog 9 #[.pointer (some ⟨q, 0, none⟩)] w fun e w' => ∃ v', e = .returned (.tuple #[v', .int .i64 (nth l ia / 16)]) ∧ Lst w.heap.size v' X w' ∧ Si q g b kb ia n vs l s w' ∧ Tw [g, b] w w' := by
  obtain ⟨c0, c1, c2⟩ := h.cells
  have hne := h.ne
  have P := Lib.hid (fun W (hW : Si q g b kb ia n vs l s W) => peekS hW)
  have F1 := Lib.hid h.dr
  have FL : Hid (∀ W1, Tw [g, b] w.drew W1 → Lst B (vs wh) X W1) := fun W1 hW => by
    obtain ⟨k, c, o, m, d, hm⟩ := h.mem
    exact (show Lst B (vs wh) X w.drew from hL).keep hW (by
      intro i hi
      simp at hi
      rcases hi with rfl | rfl
      · exact .inr ⟨_, _, hm.1, by decide⟩
      · exact .inl hB)
  have n16 := h.n16
  clear h hL
  generalize nth l ia = x at *
  have WO := Lib.hid (fun W => whoOf_any x W)
  rw [hw] at WO
  have C := Lib.hid (fun W => costOf_any x W)
  generalize x / 16 = y at *
  have CL := Lib.hid (fun W (hW : Lst B (vs wh) X W) => clone_l B (vs wh) X W hW hX)
  have i1 : ¬ (n : Int) ≤ (wh : Int) := by omega
  have i2 : (wh : Int) < (n : Int) := by omega
  clear hw hX hB
  go_enter Try.func9, Try.ntmps9
  go_wp2_with fail
  go_region_held3 (fun w' => w'.cell? ⟨q, 0, none⟩ = some (.pointer (some ⟨g, 0, none⟩)) ∧ w'.cell? ⟨q, 1, none⟩ = some (.int .i64 ia)) (first | exact ⟨c0, c1⟩ | simp [go_sem, c0, c1])
    (first | (go_at_call 27; (with_reducible refine (P.out _ F1.out).mono ?_); rintro e w1 ⟨rfl, f1, f2⟩; have F1 := Lib.hid f1; have F2 := Lib.hid f2; obtain ⟨c0, c1, c2⟩ := f1.cells; obtain ⟨k0, k1⟩ := f1.kc wh hwn; clear f1 f2))
  all_goals
    clear P
    have L := Lib.hid (FL.out _ F2.out)
    clear FL
    generalize vs wh = vx at *
    go_wp2_with fail
    refine (WO.out _).mono ?_; rintro e w2 ⟨rfl, rfl⟩
    go_wp2_with fail
    refine (CL.out _ L.out).mono ?_; rintro e w2 ⟨v', rfl, hl, hb⟩
    have HL := Lib.hid (hl.mono (show w.heap.size ≤ w1.heap.size from F2.out.size))
    have FF := Lib.hid (F1.out.keep (Tw.of (S := []) hb) (by simp) (by simp) (by simp) (by simp))
    have FT := Lib.hid (F2.out.undr.trans (Tw.of (S := [g, b]) hb))
    clear hl hb CL L F1 F2
    go_wp2_with fail
    refine (C.out _).mono ?_; rintro e w3 ⟨rfl, rfl⟩
    go_wp2
    go_ret2
    exact ⟨v', rfl, HL.out, FF.out, FT.out⟩
/-! Offer -/
theorem offer_nil (a : Int) (v : Value) (x : Int) (w : World) : Calls Try.prog 12 #[.pointer none, .int .i64 a, v, .int .i64 x] w fun e w' => e = .returned (.pointer none) ∧ w = w' := by
  go_enter Try.func12, Try.ntmps12
  go_wp2
  go_ret
  exact ⟨rfl, rfl⟩
theorem offer_who (a : Int) (v : Value) (x : Int) (ha : a < 0 ∨ (n : Int) ≤ a) (h : Si q g b kb ia n vs l s w) : Calls Try.prog 12 #[.pointer (some ⟨q, 0, none⟩), .int .i64 a, v, .int .i64 x] w fun e w' => e = .returned (.pointer none) ∧ w = w' := by
  obtain ⟨c0, c1, c2⟩ := h.cells
  clear h c0 c1
  by_cases h1 : a < 0
  · clear ha
    go_enter Try.func12, Try.ntmps12
    go_wp2
    go_ret
    exact ⟨rfl, rfl⟩
  · have h2 : (n : Int) ≤ a := by omega
    clear ha
    go_enter Try.func12, Try.ntmps12
    go_wp2
    go_ret
    exact ⟨rfl, rfl⟩
theorem offer_cost (a : Int) (v : Value) (x : Int) (a0 : 0 ≤ a) (a1 : a < n) (hx : fineB x = false) (h : Si q g b kb ia n vs l s w) : Calls Try.prog 12 #[.pointer (some ⟨q, 0, none⟩), .int .i64 a, v, .int .i64 x] w fun e w' => e = .returned (.pointer none) ∧ w = w' := by
  obtain ⟨c0, c1, c2⟩ := h.cells
  clear h c0 c1
  have P := Lib.hid (fun W => possible_any x W)
  rw [hx] at P
  have d1 : decide (a < 0) = false := decide_eq_false (by omega)
  have i2 : ¬ (n : Int) ≤ a := by omega
  go_enter Try.func12, Try.ntmps12
  go_wp2_with fail
  refine (P.out _).mono ?_; rintro e w1 ⟨rfl, rfl⟩
  go_wp2
  go_ret
  exact ⟨rfl, rfl⟩
/-- what Offer leaves -/
def OfferOf (q : Nat) (a x : Int) (l : List Int) (w : World) (e : Ending) (w' : World) : Prop := ∃ p v', e = .returned (.pointer (some ⟨p, 0, none⟩)) ∧ w.heap.size ≤ p ∧ Lst w.heap.size v' l w' ∧ Ac p q a v' x 0 0 false w' ∧ Below w.heap.size w w'
theorem offer_any (a : Int) (v : Value) (x : Int) (X : List Int) (B : Nat) (a0 : 0 ≤ a) (a1 : a < n) (hx : fineB x = true) (hX : X.length ≤ 1000) (h : Si q g b kb ia n vs l s w) (hL : Lst B v X w) : Calls Try.prog 12 #[.pointer (some ⟨q, 0, none⟩), .int .i64 a, v, .int .i64 x] w (OfferOf q a x X w) := by
  obtain ⟨c0, c1, c2⟩ := h.cells
  clear h c0 c1
  have P := Lib.hid (fun W => possible_any x W)
  rw [hx] at P
  have d1 : decide (a < 0) = false := decide_eq_false (by omega)
  have i2 : ¬ (n : Int) ≤ a := by omega
  have CL := Lib.hid (clone_l B v X w hL hX)
  have F : Hid (∀ v' w1, Lst w.heap.size v' X w1 → Below w.heap.size w w1 → OfferOf q a x X w (.returned (.pointer (some ⟨w1.heap.size, 0, none⟩))) (w1.alloc (.cells #[.pointer (some ⟨q, 0, none⟩), .int .i64 a, v', .int .i64 x, .int .i64 0, .int .i64 0, .bool false] 76))) :=
    fun v' w1 h1 h2 => ⟨_, v', rfl, h2.size, h1.up (bl_al (Below.refl _ _) _), heap_alloc_new _ _, bl_al h2 _⟩
  clear hL hX hx
  go_enter Try.func12, Try.ntmps12
  go_wp2_with fail
  refine (P.out _).mono ?_; rintro e w1 ⟨rfl, rfl⟩
  go_wp2_with fail
  refine CL.out.mono ?_; rintro e w1 ⟨v', rfl, h1, h2⟩
  obtain ⟨av, nv, cv, rfl⟩ := h1.form
  have F := Lib.hid (F.out _ w1 h1 h2)
  clear h1 h2 CL P
  go_wp2
  go_ret
  exact F.out
end
end Go.Proofs.Ytpmkpmenjaekmaa

/-
  The walk through kurganlaw22.IncMixed.
-/
import Derived.Test.YtpmkpmenjaekmaaIcN
import Derived.Deep.Cut
namespace Go.Proofs.Ytpmkpmenjaekmaa
open Go.RowKit Go.MuLone
set_option linter.unusedVariables false
theorem u64_bd3 (x : Int) : 0 ≤ IntKind.u64.wrap x ∧ IntKind.u64.wrap x ≤ 18446744073709551615 := by rw [IntKind.wrap_u64]; omega
theorem lit2 (x y : Int) (w : World) : Lst w.heap.size (.slice (some ⟨w.heap.size, 0, none⟩) 2 2) [x, y] (w.alloc (.cells #[.int .i64 x, .int .i64 y] 3)) :=
  .inr ⟨_, 2, _, rfl, Nat.le_refl _, by simp, by omega, heap_alloc_new _ _, fun j hj => by
    have hj0 : j = 0 ∨ j = 1 := by simp at hj; omega
    rcases hj0 with rfl | rfl
    · rw [show nth [x, y] 0 = x by unfold nth; rfl]
      exact (cell_of_row _ _ 0 _ 3 _ (heap_alloc_new _ _)).trans rfl
    · rw [show nth [x, y] 1 = y by unfold nth; rfl]
      exact (cell_of_row _ _ 1 _ 3 _ (heap_alloc_new _ _)).trans rfl⟩
/-- a list of two numbers in a block that is known -/
theorem lst2 {B p : Nat} {x y : Int} {w : World} (h : w.heap[p]? = some (.cells #[.int .i64 x, .int .i64 y] 3 (0, 0))) (hB : B ≤ p) : Lst B (.slice (some ⟨p, 0, none⟩) 2 2) [x, y] w :=
  .inr ⟨p, 2, _, rfl, hB, by simp, by omega, h, fun j hj => by
    have hj0 : j = 0 ∨ j = 1 := by simp at hj; omega
    rcases hj0 with rfl | rfl
    · rw [show nth [x, y] 0 = x by unfold nth; rfl]
      exact (cell_of_row _ _ 0 _ 3 _ h).trans rfl
    · rw [show nth [x, y] 1 = y by unfold nth; rfl]
      exact (cell_of_row _ _ 1 _ 3 _ h).trans rfl⟩
section
variable {q g b kb pw pa pc px B : Nat} {fa f : Nat → Option Nat} {cs : Nat → Int} {xs : Nat → Value} {C wh : Nat} {X : List Int} {C2 : Int} {X2 : List Int} {s : Int} {w0 w : World}
theorem mi_take (h : Mi q g b kb pw pa pc px B fa f cs xs C wh X C2 X2 s w0 w) (v : Value) (c : Int) (X' : List Int) (hX : X'.length = 2) (hL : Lst (b + 1) v X' w) : Calls Try.prog 18 #[.pointer (some ⟨pw, 0, none⟩), v, .int .i64 c] w fun e w' => e = .returned (.tuple #[]) ∧ Mi q g b kb pw pa pc px B fa f cs xs C wh X c X' s w0 w' := by
  obtain ⟨xv, h1, h2⟩ := h.wd
  have hl := h.lts
  have hn := h.ne
  refine (take_any pw (b + 1) v X' c C2 xv hX w h1 hL).mono ?_
  rintro e w1 ⟨rfl, v', e1, e2, k⟩
  exact ⟨rfl, h.gen k (by simp) (fun j p hj hp => ⟨hp, rfl, rfl⟩) (h.stk k (by simp)) h.wh4 h.X2l ⟨v', e1, e2.mono (by omega)⟩ (blk_tw h.ab k (by simp; exact hn.2.1.2.2.2.2)) (blk_tw h.cb k (by simp; exact hn.2.2.1.2.2.2.2.1)) (blk_tw h.xb k (by simp; exact hn.2.2.2.2.2.2.2.1))⟩
theorem mi_begin {w6 w7 w8 : World} {n h1 p : Nat} {x y c : Int} {v' : Value} (h : Mi q g b kb pw pa pc px B fa f cs xs C wh X C2 X2 s w0 w6) (hi : n < 4) (hf : f n = none) (hb1 : b < h1) (hx : xs n = .slice (some ⟨h1, 0, none⟩) 2 2) (E1 : w6.heap[h1]? = some (.cells #[.int .i64 x, .int .i64 y] 3 (0, 0))) (hc : cs n = c) (c0 : 0 ≤ c) (c1 : c ≤ 999)
    (e7 : w7 = w6.alloc (.cells #[.int .i64 x, .int .i64 y] 3)) (hp : w7.heap.size ≤ p) (hl : Lst w7.heap.size v' [x, y] w8) (ha : Ac p q n v' c 0 0 false w8) (hb : Below w7.heap.size w7 w8) :
    Mi q g b kb pw pa pc px B (upd fa n (some p)) (upd f n (some p)) cs xs C wh X C2 X2 s w0 ((w8.setCell ⟨pa, n, none⟩ (.pointer (some ⟨p, 0, none⟩))).setCell ⟨w6.heap.size, 0, none⟩ (.int .i64 99)) := by
  have al := bl_al (Below.refl _ w6) (.cells #[.int .i64 x, .int .i64 y] 3)
  rw [← e7] at al
  have hs7 : w7.heap.size = w6.heap.size + 1 := by rw [e7]; simp
  have b68 := bl_tr al hb
  have hlt := h.lts
  have k8 : Tw [pa, w6.heap.size] w8 ((w8.setCell ⟨pa, n, none⟩ (.pointer (some ⟨p, 0, none⟩))).setCell ⟨w6.heap.size, 0, none⟩ (.int .i64 99)) := ((Tw.refl _ w8).st pa (.inl (by simp)) n _).st w6.heap.size (.inl (by simp)) 0 _
  have k6 : Tw [pa, w6.heap.size] w6 ((w8.setCell ⟨pa, n, none⟩ (.pointer (some ⟨p, 0, none⟩))).setCell ⟨w6.heap.size, 0, none⟩ (.int .i64 99)) := (Tw.of b68).trans k8
  have hn := h.ne
  have hpa : pa < w6.heap.size := hlt.2.2.2.2.2.1
  have hh1 := lt_hp E1
  have hab : ((w8.setCell ⟨pa, n, none⟩ (.pointer (some ⟨p, 0, none⟩))).setCell ⟨w6.heap.size, 0, none⟩ (.int .i64 99)).heap[pa]? = some (.cells #[ptr (upd fa n (some p) 0), ptr (upd fa n (some p) 1), ptr (upd fa n (some p) 2), ptr (upd fa n (some p) 3)] 47 (0, 0)) := by
    rw [← row_set ptr fa n (some p) hi]
    refine (Below.heap_setCell _ _ _ pa (Nat.ne_of_lt hpa)).trans ?_
    exact blk_set ((b68.block pa hpa).trans h.ab) n _
  have hpa1 : h1 ≠ pa := fun e => by
    have h2 := h.ab
    rw [← e, E1] at h2
    injection h2 with h2
    injection h2 with _ h2 _
    cases h2
  have M := h.gen (fa' := upd fa n (some p)) k6 (fun j hj => by
      simp at hj
      rcases hj with e | e
      · exact .inr (.inr (.inr (.inl e)))
      · exact .inr (.inr (.inr (.inr (.inr (.inr (Nat.le_of_eq e.symm))))))) (fun j p hj hp => ⟨hp, rfl, rfl⟩)
    (h.stk k6 (fun j hj => by
      simp at hj
      rcases hj with e | e
      · exact .inr (.inl e)
      · exact .inr (.inr (.inr (.inr (Nat.le_of_eq e.symm)))))) h.wh4 h.X2l
    (h.wdk k6 (by simp; exact ⟨fun e => hn.2.1.2.2.2.2 e.symm, Nat.ne_of_lt hlt.2.2.2.2.1⟩) (fun j hj => by
      simp at hj
      rcases hj with e | e
      · exact .inl e
      · exact .inr (.inr (.inr (Nat.le_of_eq e.symm))))) hab (blk_tw h.cb k6 (by simp; exact ⟨hn.2.2.1.2.2.2.2.2, Nat.ne_of_lt hlt.2.2.2.2.2.2.1⟩)) (blk_tw h.xb k6 (by simp; exact ⟨hn.2.2.2.2.2.2.2.2.1, Nat.ne_of_lt hlt.2.2.2.2.2.2.2⟩))
  have hpa8 : ∃ c t, w8.heap[pa]? = some (.cells c t (0, 0)) ∧ t ≠ 3 := ⟨_, _, (b68.block pa hpa).trans h.ab, by decide⟩
  subst hc
  refine M.nw (xa := v') (Y := [x, y]) hi (by have := h.bel.size; omega) (fun j hj e => ?_) c0 c1 (ha.keep k8 (by simp; omega)) ((hl.keep3 k8 (fun j hj => ?_)).mono (by omega)) ?_ rfl
  · obtain ⟨_, hau⟩ := h.act j p hj e
    obtain ⟨xa, Y, nx, rd, a1, _⟩ := hau.ex
    have := lt_hp a1
    omega
  · simp at hj
    rcases hj with e | e
    · rw [e]; exact .inr (.inr hpa8)
    · exact .inl (by omega)
  · rw [hx]
    exact lst2 (blk_tw ((b68.block h1 hh1).trans E1) k8 (by simp; exact ⟨hpa1, Nat.ne_of_lt hh1⟩)) (by omega)
theorem mi_look2 (s0 : 0 ≤ s) (s1 : s ≤ 1000000) (h : Mi q g b kb pw pa pc px B fa f cs xs C wh X C2 X2 s w0 w) : Calls Try.prog 11 #[.pointer (some ⟨q, 0, none⟩)] w fun e w' => e = .returned (.int .i64 C) ∧ Below B w0 w' ∧ w'.cell? ⟨pw, 0, none⟩ = some (.int .i64 C2) := by
  obtain ⟨vs, h1, h2⟩ := h.st
  have h4 := h.wh4
  have hn := h.ne
  have := lookN_any s0 s1 h1
  rw [n31, show ((C : Int) * 16 + wh) / 16 = C by omega] at this
  refine this.mono ?_
  rintro e w1 ⟨rfl, f1, f2⟩
  exact ⟨rfl, f2.below h.bel (by intro i hi; simp at hi; have := h.ge; omega) h.sz, (cell_tw f2 h.lts.2.2.2.2.1 (by simp; exact ⟨hn.1.1, hn.1.2.1⟩) 0).trans h.cells.1⟩
theorem Mi.dr (h : Mi q g b kb pw pa pc px B fa f cs xs C wh X C2 X2 s w0 w) : Mi q g b kb pw pa pc px B fa f cs xs C wh X C2 X2 s w0 w.drew := h.tw ((Tw.refl [] w).dr) (by simp) (fun vs hs => hs.dr)
theorem mi_end {w9 w10 w11 : World} {gv : Nat} (h : Mi q g b kb pw pa pc px B fa f cs xs C wh X C2 X2 s w0 w9) (h1 : Mi q g b kb pw pa pc px B fa f cs xs C wh X C2 X2 s w0 w10) (k1 : Tw [g, b] w9 w10) (hg : w9.heap.size ≤ gv) (k2 : Below w10.heap.size w10 w11) (v : Value) :
    Mi q g b kb pw pa pc px B fa f cs xs C wh X C2 X2 s w0 (w11.setCell ⟨gv, 0, none⟩ v) := by
  have hlt := h.lts
  have hn := h.ne
  have k3 : Tw [gv] w11 (w11.setCell ⟨gv, 0, none⟩ v) := (Tw.refl _ w11).st gv (.inl (by simp)) 0 v
  have k : Tw [g, b, gv] w9 (w11.setCell ⟨gv, 0, none⟩ v) := ((k1.trans (Tw.of k2)).mono (by simp)).trans (k3.mono (by simp))
  have out : ∀ x, x < w9.heap.size → x ≠ g → x ≠ b → x ∉ [g, b, gv] := fun x a1 a2 a3 a4 => by
    simp at a4
    rcases a4 with e | e | e
    · exact a2 e
    · exact a3 e
    · omega
  have hS3 : ∀ j, j ∈ [g, b, gv] → j < b + 1 ∨ w9.heap.size ≤ j ∨ ∃ c t, w9.heap[j]? = some (.cells c t (0, 0)) ∧ t ≠ 3 := fun j hj => by
    simp at hj
    rcases hj with e | e | e
    · rw [e]; exact .inr (.inr h.ty.1)
    · rw [e]; exact .inl (Nat.lt_succ_self _)
    · rw [e]; exact .inr (.inl hg)
  obtain ⟨vs, s1, s2⟩ := h.st
  obtain ⟨vs', s3, _⟩ := h1.st
  obtain ⟨kk, c, o, m, d, hm⟩ := s3.mem
  obtain ⟨K, hK, hK2⟩ := s1.kep
  obtain ⟨xv, w1, w2⟩ := h.wd
  have hne := s1.ne
  have hmem : MB 0 g b [0, (C : Int) * 16 + wh, 0] s kk c o m d (w11.setCell ⟨gv, 0, none⟩ v) :=
    ⟨blk_tw ((k2.block _ (lt_hp hm.1)).trans hm.1) k3 (by simp; omega), blk_tw ((k2.block _ (lt_hp hm.2)).trans hm.2) k3 (by simp; omega)⟩
  refine h.gen k (fun j hj => by
      simp at hj
      rcases hj with e | e | e
      · exact .inl e
      · exact .inr (.inl e)
      · exact .inr (.inr (.inr (.inr (.inr (.inr (by omega))))))) (fun j p hj hp => ⟨hp, rfl, rfl⟩)
    ⟨vs, ⟨blk_tw s1.box k (out _ hlt.1 hne.1 hne.2.1), ⟨K, blk_tw hK k (out _ hlt.2.2.2.1 hne.2.2.2.1 hne.2.2.2.2.1), hK2⟩, s1.len, s1.len2, s1.n1, s1.n16, kk, c, o, m, d, hmem⟩, s2.keep3 k hS3⟩ h.wh4 h.X2l
    ⟨xv, blk_tw w1 k (out _ hlt.2.2.2.2.1 hn.1.1 hn.1.2.1), w2.keep3 k hS3⟩ (blk_tw h.ab k (out _ hlt.2.2.2.2.2.1 hn.2.1.1 hn.2.1.2.1)) (blk_tw h.cb k (out _ hlt.2.2.2.2.2.2.1 hn.2.2.1.1 hn.2.2.1.2.1)) (blk_tw h.xb k (out _ hlt.2.2.2.2.2.2.2 hn.2.2.2.1 hn.2.2.2.2.1))
/-- what came in, at hand -/
def TA (a : Option Addr) (m : Nat) (tw tc : Nat → Int) (w : World) : Prop := ∀ k, k < m → ∃ bb oo, a = some ⟨bb, oo, none⟩ ∧ ∀ W, Below w.heap.size w W → W.cell? ⟨bb, oo + k * 2, none⟩ = some (.int .i64 (tw k)) ∧ W.cell? ⟨bb, oo + k * 2 + 1, none⟩ = some (.int .i64 (tc k))
end
set_option maxRecDepth 100000 in
set_option maxHeartbeats 32000000 in
theorem mixed_core (o V : Int) (L m : Nat) (hV : IntKind.u64.wrap o = V) (hV1 : 0 ≤ V ∧ V ≤ 18446744073709551615) (hL : V % 1000 = (L : Int))
    (a : Option Addr) (rn rc : Nat) (tw tc : Nat → Int) (w : World) (hm : m ≤ 200) (hrn : ∀ k : Nat, k < m → k < rn) (hrn2 : ¬ m = 200 → rn = m) (hR : TA a m tw tc w) :
    Calls Try.prog 4 #[.int .i64 o, .slice a rn rc] w fun e w' => e = .returned (.bool true) ∧ Below w.heap.size w w' := by
  have hL1 : L ≤ 999 := by omega
  have L1 := Lib.hid (lit2 (-1) (-1) w)
  have B1 := Lib.hid (bl_al (Below.refl _ w) (.cells #[.int .i64 (-1), .int .i64 (-1)] 3))
  have F := Lib.hid (fun v B W (hW : Lst B v [-1, -1] W) => fresh_any 4 L B v [-1, -1] (by simp) (by omega) (by omega) (by omega) W hW)
  rw [show ((4 : Nat) : Int) = 4 from rfl] at F
  have C := Lib.hid (fun W => incs_any W)
  have R := Lib.hid hR
  have HN := Lib.hid hrn
  have HN2 := Lib.hid hrn2
  clear hR hrn hrn2
  go_enter Try.func4, Try.ntmps4
  go_wp2_with fail
  refine (F.out _ _ _ L1.out).mono ?_; rintro e w1 ⟨q, g, b, kb, vs, rfl, hs, st, hl, bl⟩
  have B := Lib.hid (bl_tr B1.out bl)
  have G := Lib.hid (show w.heap.size ≤ q ∧ w.heap.size ≤ g ∧ w.heap.size ≤ b ∧ w.heap.size ≤ kb by have := B1.out.size; omega)
  have S := Lib.hid st
  have LX := Lib.hid hl
  clear hs st hl bl L1 B1 F
  go_wp2_with fail
  refine (C.out _).mono ?_; rintro e w2 ⟨rfl, hb⟩
  have S := Lib.hid (S.out.up hb)
  have LX := Lib.hid (LX.out.up hb)
  have B := Lib.hid (bl_tr B.out hb)
  clear hb C
  go_wp2_with fail
  have PW := Lib.hid (show w.heap.size ≤ w2.heap.size from B.out.size)
  have hal := bl_al (Below.refl _ w2) (.cells #[.int .i64 0, .slice none 0 0] 45)
  have WD := Lib.hid (heap_alloc_new w2 (.cells #[.int .i64 0, .slice none 0 0] 45))
  have hal2 := bl_al (Below.refl _ (w2.alloc (.cells #[.int .i64 0, .slice none 0 0] 45))) (.cells #[.int .i64 (-1), .int .i64 (-1)] 3)
  have LI := Lib.hid (lit2 (-1) (-1) (w2.alloc (.cells #[.int .i64 0, .slice none 0 0] 45)))
  have S := Lib.hid ((S.out.up hal).up hal2)
  have LX := Lib.hid ((LX.out.up hal).up hal2)
  have B := Lib.hid (bl_tr (bl_tr B.out hal) hal2)
  have WD := Lib.hid ((hal2.block _ (lt_hp WD.out)).trans WD.out)
  clear hal hal2
  rw [show (w2.alloc (.cells #[.int .i64 0, .slice none 0 0] 45)).heap.size = w2.heap.size + 1 by simp] at LI
  generalize ((w2.alloc (.cells #[.int .i64 0, .slice none 0 0] 45)).alloc (.cells #[.int .i64 (-1), .int .i64 (-1)] 3)) = w2' at *
  generalize w2.heap.size = pw at *
  refine (take_any pw _ _ [-1, -1] (L : Int) 0 (.slice none 0 0) rfl _ WD.out LI.out).mono ?_; rintro e w3 ⟨rfl, v', wd, ll, k⟩
  have hne := S.out.ne
  obtain ⟨kk, c0, o0, m0, d0, hm0⟩ := S.out.mem
  obtain ⟨KK, hKK, hKr⟩ := S.out.kep
  have n1 := blk_ty WD.out hm0.1 (by decide)
  have n2 := blk_ty WD.out hm0.2 (by decide)
  have n3 := blk_ty WD.out hKK (by decide)
  have n4 := blk_ty WD.out S.out.box (by decide)
  have S := Lib.hid (S.out.keep k (by simp; exact fun e => n4 e.symm) (by simp; exact fun e => n1 e.symm) (by simp; exact fun e => n2 e.symm) (by simp; exact fun e => n3 e.symm))
  have LX := Lib.hid (LX.out.keep k (fun j hj => by simp at hj; subst hj; exact .inr ⟨_, _, WD.out, by decide⟩))
  have B := Lib.hid (k.below B.out (by intro i hi; simp at hi; have := PW.out; omega) B.out.size)
  have WL := Lib.hid (ll.mono (show b + 1 ≤ w2'.heap.size from lt_hp hm0.2))
  have WD := Lib.hid wd
  clear hne kk c0 o0 m0 d0 hm0 hKr hKK KK n1 n2 n3 n4 k ll wd LI
  generalize hA : ((w3.alloc (.cells #[.pointer none, .pointer none, .pointer none, .pointer none] 47)).alloc (.cells #[.int .i64 0, .int .i64 0, .int .i64 0, .int .i64 0] 48)).alloc (.cells #[.slice none 0 0, .slice none 0 0, .slice none 0 0, .slice none 0 0] 49) = w4
  have a1 := bl_al (Below.refl _ w3) (.cells #[.pointer none, .pointer none, .pointer none, .pointer none] 47)
  have a2 := bl_al (Below.refl _ (w3.alloc (.cells #[.pointer none, .pointer none, .pointer none, .pointer none] 47))) (.cells #[.int .i64 0, .int .i64 0, .int .i64 0, .int .i64 0] 48)
  have a3 := bl_al (Below.refl _ ((w3.alloc (.cells #[.pointer none, .pointer none, .pointer none, .pointer none] 47)).alloc (.cells #[.int .i64 0, .int .i64 0, .int .i64 0, .int .i64 0] 48))) (.cells #[.slice none 0 0, .slice none 0 0, .slice none 0 0, .slice none 0 0] 49)
  have b1 := bl_tr (bl_tr a1 a2) a3
  have e1 := heap_alloc_new w3 (.cells #[.pointer none, .pointer none, .pointer none, .pointer none] 47)
  have e2 := heap_alloc_new (w3.alloc (.cells #[.pointer none, .pointer none, .pointer none, .pointer none] 47)) (.cells #[.int .i64 0, .int .i64 0, .int .i64 0, .int .i64 0] 48)
  have e3 := heap_alloc_new ((w3.alloc (.cells #[.pointer none, .pointer none, .pointer none, .pointer none] 47)).alloc (.cells #[.int .i64 0, .int .i64 0, .int .i64 0, .int .i64 0] 48)) (.cells #[.slice none 0 0, .slice none 0 0, .slice none 0 0, .slice none 0 0] 49)
  have e1 := (a3.block _ (Nat.lt_of_lt_of_le (lt_hp e1) a2.size)).trans ((a2.block _ (lt_hp e1)).trans e1)
  have e2 := (a3.block _ (lt_hp e2)).trans e2
  rw [hA] at e1 e2 e3 b1
  rw [show (w3.alloc (.cells #[.pointer none, .pointer none, .pointer none, .pointer none] 47)).heap.size = w3.heap.size + 1 by simp] at e2
  rw [show ((w3.alloc (.cells #[.pointer none, .pointer none, .pointer none, .pointer none] 47)).alloc (.cells #[.int .i64 0, .int .i64 0, .int .i64 0, .int .i64 0] 48)).heap.size = w3.heap.size + 1 + 1 by simp] at e3
  have MX : Hid (Mi q g b kb pw w3.heap.size (w3.heap.size + 1) (w3.heap.size + 1 + 1) w.heap.size (fun _ => none) (fun _ => none) (fun _ => 0) (fun _ => .slice none 0 0) L 0 [-1, -1] L [-1, -1] 1 w w4) := by
    have hg := G.out
    have hp := PW.out
    have hs := B.out.size
    refine ⟨⟨vs, ?_, LX.out.up b1⟩, by omega, rfl, ⟨v', (b1.block _ (lt_hp WD.out)).trans WD.out, WL.out.up b1⟩, e1, e2, e3, (fun i p _ h => by cases h), (fun i j p _ _ h => by cases h), by omega, rfl, bl_tr B.out b1⟩
    have := S.out.up b1
    simpa using this
  have BB := Lib.hid hA
  clear a1 a2 a3 b1 e1 e2 e3 hA S LX WL WD G PW B
  go_wp2_with fail
  rw [BB.out]
  clear BB
  generalize w3.heap.size + 1 + 1 = px at *
  generalize w3.heap.size + 1 = pc at *
  generalize w3.heap.size = pa at *
  go_loopw [12] (fun i wr => ∃ (k : Nat) (f : Nat → Option Nat) (cs : Nat → Int) (xs : Nat → Value) (C wh : Nat) (X : List Int) (s : Int), i = .int .i64 k ∧ k ≤ m ∧ C ≤ 999 ∧ Hid (0 ≤ s ∧ s ≤ 1 + k) ∧ Hid (Mi q g b kb pw pa pc px w.heap.size f f cs xs C wh X C X s w wr)) (fun i _ => 300 - (intOf i).toNat)
  case atStart => exact ⟨0, _, _, _, L, 0, _, 1, rfl, by omega, hL1, Lib.hid (by omega), MX⟩
  case round =>
    clear MX
    obtain ⟨k, f, cs, xs, C, wh, X, s, rfl, hk, hC, BD, MX⟩ := hrel
    by_cases hlt : k < m
    · have i1 : (k : Int) < (rn : Int) := by have := HN.out k hlt; omega
      have i2 : (k : Int) < 200 := by omega
      obtain ⟨bb, oo, rfl, hc⟩ := R.out k hlt
      obtain ⟨c1, c2⟩ := hc wr MX.out.bel
      generalize tw k = xw at *
      generalize tc k = xc at *
      obtain ⟨U, hU⟩ : ∃ U, IntKind.u64.wrap xw = U := ⟨_, rfl⟩
      have hU1 := u64_bd3 xw
      rw [hU] at hU1
      obtain ⟨n, hn⟩ : ∃ n : Nat, U % 4 = n := ⟨(U % 4).toNat, by omega⟩
      have n4 : n < 4 := by omega
      have n0i : (0 : Int) ≤ (n : Int) := by omega
      have n4i : (n : Int) < 4 := by omega
      obtain ⟨V2, hV2⟩ : ∃ V2, IntKind.u64.wrap xc = V2 := ⟨_, rfl⟩
      have hV21 := u64_bd3 xc
      rw [hV2] at hV21
      obtain ⟨c, hcc⟩ : ∃ c : Nat, V2 % 1000 = c := ⟨(V2 % 1000).toNat, by omega⟩
      have hc9 : c ≤ 999 := by omega
      have bd := BD.out
      have hal := bl_al (Below.refl _ wr) (.cells #[.int .i64 xw, .int .i64 xc] 51)
      have MX1 := Lib.hid (MX.out.up hal)
      obtain ⟨p0, fz, row, xv, pv, lv⟩ := MX1.out.cells
      obtain ⟨ra, rc1, rx⟩ := row n n4
      obtain ⟨f1, f2, f3, f4⟩ := fz n
      clear row fz MX
      have LV := Lib.hid lv
      clear lv hal
      cases hf : f n with
      | none =>
        rw [hf] at ra
        have ra' : (wr.alloc (.cells #[.int .i64 xw, .int .i64 xc] 51)).cell? ⟨pa, n, none⟩ = some (.pointer none) := ra
        clear pv LV p0 f4 ra f1 f3 rx
        go_upto_region 17 with fail
        have MX2 := Lib.hid (MX1.out.sc n n4 hf (c : Int))
        have CE : Hid (upd cs n (c : Int) n = c) := Lib.hid (upd_at _ _ _)
        generalize ((wr.alloc (.cells #[.int .i64 xw, .int .i64 xc] 51)).setCell ⟨pc, n, none⟩ (.int .i64 (c : Int))) = w5 at *
        generalize upd cs n (c : Int) = cs' at *
        clear MX1 f2 rc1 c1 c2 hc ra'
        obtain ⟨p0, fz, row, xv', pv, lv⟩ := MX2.out.cells
        obtain ⟨ra, rc1, rx⟩ := row n n4
        obtain ⟨f1, f2, f3, f4⟩ := fz n
        clear row fz p0 f1 f2 f4 lv pv ra rc1
        have al1 := bl_al (Below.refl _ w5) (.cells #[.int .i64 (n : Int), .int .i64 (k : Int)] 3)
        have rx' := (al1.cell (p := ⟨px, n, none⟩) MX2.out.lts.2.2.2.2.2.2.2).trans rx
        have f3' := (al1.frozen (p := ⟨px, n, none⟩) MX2.out.lts.2.2.2.2.2.2.2).trans f3
        clear rx f3
        have E1 := Lib.hid (heap_alloc_new w5 (.cells #[.int .i64 (n : Int), .int .i64 (k : Int)] 3))
        have MX3 := Lib.hid ((MX2.out.up al1).sx n n4 hf (.slice (some ⟨w5.heap.size, 0, none⟩) 2 2))
        go_upto_region 18 with fail
        have E1 : Hid (((w5.alloc (.cells #[.int .i64 (n : Int), .int .i64 (k : Int)] 3)).setCell ⟨px, n, none⟩ (.slice (some ⟨w5.heap.size, 0, none⟩) 2 2)).heap[w5.heap.size]? = some (.cells #[.int .i64 (n : Int), .int .i64 (k : Int)] 3 (0, 0))) := Lib.hid ((Below.heap_setCell _ _ _ _ (Nat.ne_of_gt MX2.out.lts.2.2.2.2.2.2.2)).trans E1.out)
        have BH := Lib.hid (show b < w5.heap.size from MX2.out.lts.2.2.1)
        have XE : Hid (upd xs n (.slice (some ⟨w5.heap.size, 0, none⟩) 2 2) n = .slice (some ⟨w5.heap.size, 0, none⟩) 2 2) := Lib.hid (upd_at _ _ _)
        generalize upd xs n (.slice (some ⟨w5.heap.size, 0, none⟩) 2 2) = xs' at *
        generalize ((w5.alloc (.cells #[.int .i64 (n : Int), .int .i64 (k : Int)] 3)).setCell ⟨px, n, none⟩ (.slice (some ⟨w5.heap.size, 0, none⟩) 2 2)) = w6 at *
        clear MX2 al1 rx' f3'
        generalize w5.heap.size = h1 at *
        go_upto_region 19 with fail
        obtain ⟨w7, e7⟩ : ∃ w7, w7 = w6.alloc (.cells #[.int .i64 (n : Int), .int .i64 (k : Int)] 3) := ⟨_, rfl⟩
        have al2 := bl_al (Below.refl _ w6) (.cells #[.int .i64 (n : Int), .int .i64 (k : Int)] 3)
        have L2 := Lib.hid (lit2 (n : Int) (k : Int) w6)
        have E2 := Lib.hid (heap_alloc_new w6 (.cells #[.int .i64 (n : Int), .int .i64 (k : Int)] 3))
        rw [← e7] at L2 E2 al2 ⊢
        have MX4 := Lib.hid (MX3.out.up al2)
        obtain ⟨p0, fz, row, xv', pv, lv⟩ := MX4.out.cells
        obtain ⟨ra, rc1, rx⟩ := row n n4
        rw [CE.out] at rc1
        clear row fz p0 lv pv ra rx
        have E7 := Lib.hid e7
        clear e7
        go_wp2_with fail
        obtain ⟨vs4, st4, lx4⟩ := MX4.out.st
        refine (offer_any (n : Int) _ (c : Int) [(n : Int), (k : Int)] _ (by omega) (by omega) (fine_of (by omega)) (by simp) st4 L2.out).mono ?_; rintro e w8 ⟨p, v2, rfl, hp, hl, ha, hb⟩
        have MX5 := Lib.hid (mi_begin MX3.out n4 hf BH.out XE.out E1.out CE.out (by omega) (by omega) E7.out hp hl ha hb)
        have MX6 := MX4.out.up hb
        obtain ⟨p0, fz, row, xv', pv, lv⟩ := MX6.cells
        obtain ⟨ra, rc2, rx⟩ := row n n4
        obtain ⟨f1, f2, f3, f4⟩ := fz n
        rw [hf] at ra
        have ra' : w8.cell? ⟨pa, n, none⟩ = some (.pointer none) := ra
        have e28 := (hb.block _ (lt_hp E2.out)).trans E2.out
        have h20 := (cell_of_row w8 w6.heap.size 0 _ 3 _ e28).trans rfl
        have h2f : w8.frozen? ⟨w6.heap.size, 0, none⟩ = false := by simp [World.frozen?, e28]
        have hne : ¬ (w6.heap.size = pa) := Nat.ne_of_gt MX3.out.lts.2.2.2.2.2.1
        have hne2 : ¬ (pa = w6.heap.size) := Nat.ne_of_lt MX3.out.lts.2.2.2.2.2.1
        clear row fz p0 lv pv ra rx f2 f3 f4 rc1 rc2 MX6 hp hl ha hb MX4 e28 st4 lx4 al2 L2 E2 E7 MX3 E1 XE BH CE
        go_wp2
        exact ⟨⟨k + 1, upd f n (some p), cs', xs', C, wh, X, s, by simp, by omega, hC, Lib.hid (by omega), MX5⟩, by simp [intOf]; omega⟩
      | some p =>
        rw [hf] at ra
        have ra' : (wr.alloc (.cells #[.int .i64 xw, .int .i64 xc] 51)).cell? ⟨pa, n, none⟩ = some (.pointer (some ⟨p, 0, none⟩)) := ra
        clear pv LV p0 f4 ra f1 f3 rx f2 rc1
        go_upto_region 21 with fail
        have MX := Lib.hid MX1.out
        generalize (wr.alloc (.cells #[.int .i64 xw, .int .i64 xc] 51)) = w5 at *
        clear MX1 ra' c1 c2 hc
        go_wp2_with fail
        refine (mi_steps MX.out).mono ?_; rintro e w6 ⟨rfl, mx, _⟩
        have MX := Lib.hid mx
        obtain ⟨p0, fz, row, xv, pv, lv⟩ := mx.cells
        obtain ⟨ra, rc1, rx⟩ := row n n4
        rw [hf] at ra
        have ra' : w6.cell? ⟨pa, n, none⟩ = some (.pointer (some ⟨p, 0, none⟩)) := ra
        clear mx p0 fz row pv lv ra rc1 rx
        obtain ⟨f', C', wh', X', r, tk, xa, nx, rd, WAY, hC', hnx, ST⟩ := mi_step (by omega) (by omega) MX.out n4 hf hC
        have ST := Lib.hid ST
        have WAY := Lib.hid WAY
        clear MX
        go_wp2_with fail
        refine ST.out.mono ?_; rintro e w7 ⟨rfl, ha, mx, hl⟩
        have MX := Lib.hid mx
        have A := Lib.hid ha
        have LT := Lib.hid hl
        clear ha mx hl ST ra'
        have sw : IntKind.i64.wrap (s + 1) = s + 1 := IntWalk.i64_in _ (by omega)
        go_wp2_with fail
        refine (mi_steps MX.out).mono ?_; rintro e w8 ⟨rfl, mx, kk⟩
        have A := Lib.hid (A.out.keep kk (by have := MX.out.an A.out; simp; exact ⟨this.1, this.2.1⟩))
        have LT := Lib.hid (fun ht => (LT.out ht).keep3 kk (fun j hj => by
          simp at hj
          rcases hj with e | e
          · rw [e]; exact .inr (.inr MX.out.ty.1)
          · rw [e]; exact .inl (Nat.lt_succ_self _)))
        have MX := Lib.hid mx
        obtain ⟨p0, fz, row, xv, pv, lv⟩ := mx.cells
        obtain ⟨ra, rc1, rx⟩ := row n n4
        obtain ⟨f1, f2, f3, f4⟩ := fz n
        rw [hf] at ra
        have ra' : w8.cell? ⟨pa, n, none⟩ = some (.pointer (some ⟨p, 0, none⟩)) := ra
        clear mx fz row pv lv ra kk f2 f3 f4 rx
        have OV := Lib.hid (over_any r hnx A.out)
        have TK := Lib.hid (taken_any A.out)
        clear A hnx
        have rr : (r != r) = false := by simp
        go_wp2_with fail
        refine OV.out.mono ?_; rintro e w9 ⟨rfl, rfl⟩
        clear OV
        have M8 := MX
        rcases WAY.out with ⟨rfl, rfl, rfl, rfl, rfl, rfl⟩ | ⟨rfl, rfl, rfl, rfl, rfl, rfl, hle⟩ | ⟨rfl, rfl, rfl, hcc2, hlt2⟩
        · clear WAY LT
          go_wp2_with fail
          refine TK.out.mono ?_; rintro e w9 ⟨rfl, rfl⟩
          clear TK rc1 f1 ra' p0
          have MX := M8
          clear M8
          go_upto_region 33 with fail
          go_wp2_with fail
          refine (mi_best MX.out).mono ?_; rintro e w9 ⟨gv, cap, rfl, hgv, hl, mx, hcap, ⟨cv, hcv⟩, hfr, ktw⟩
          have MX0 := Lib.hid MX.out
          have GV := Lib.hid hgv
          have KT := Lib.hid ktw
          have MX := Lib.hid mx
          have SL := Lib.hid hl
          obtain ⟨p0, fz, row, xv, pv, lv⟩ := mx.cells
          have LV := Lib.hid lv
          have hX2 := mx.X2l
          clear mx fz row hl lv hgv ktw
          have ee : ((C' : Int) == (C' : Int)) = true := by simp
          go_wp2_with fail
          refine (same_l _ _ _ _ _ _ (by omega) (by omega) _ SL.out LV.out).mono ?_; rintro e w10 ⟨rfl, hb⟩
          have hcv' := (hb.cell (p := ⟨gv, 0, none⟩) (block_lt_of_cell hcv)).trans hcv
          have hfr' := (hb.frozen (p := ⟨gv, 0, none⟩) (block_lt_of_cell hcv)).trans hfr
          have cap0 : (0 : Int) < (cap : Int) := by omega
          have ME := Lib.hid (mi_end MX0.out MX.out KT.out GV.out hb (.int .i64 77))
          rw [show decide (X' = X') = true by simp]
          clear hcv hfr hb MX MX0 GV KT SL LV pv p0
          go_wp2
          exact ⟨⟨k + 1, f', cs, xs, C', wh', X', s + 1, by simp, by omega, hC', Lib.hid (by omega), ME⟩, by simp [intOf]; omega⟩
        · clear WAY LT
          have hnl : ¬ cs n < (C' : Int) := by omega
          have dnl : decide (cs n < (C' : Int)) = false := decide_eq_false hnl
          clear hle
          go_wp2_with fail
          refine TK.out.mono ?_; rintro e w9 ⟨rfl, rfl⟩
          clear TK
          generalize cs n = cc at *
          go_wp2_with fail
          go_region_held3 (fun w' => w'.cell? ⟨pc, n, none⟩ = some (.int .i64 cc) ∧ w'.cell? ⟨pw, 0, none⟩ = some (.int .i64 (C' : Int))) (first | exact ⟨rc1, p0⟩ | (refine ⟨?_, ?_⟩ <;> simp [go_sem, *])) (first | fail)
          all_goals
            have MX := Lib.hid (M8.out.sa n n4 none).dr
            clear M8 rc1 p0
            go_upto_region 32 with fail
            go_upto_region 33 with fail
            have MX : Hid (Mi q g b kb pw pa pc px w.heap.size (upd f n none) (upd f n none) cs xs C' wh' X' C' X' (s + 1) w (w8.setCell ⟨pa, n, none⟩ (.pointer none)).drew) := MX
            generalize (w8.setCell ⟨pa, n, none⟩ (.pointer none)).drew = w11 at *
            clear ra' f1
            go_wp2_with fail
            refine (mi_best MX.out).mono ?_; rintro e w9 ⟨gv, cap, rfl, hgv, hl, mx, hcap, ⟨cv, hcv⟩, hfr, ktw⟩
            have MX0 := Lib.hid MX.out
            have GV := Lib.hid hgv
            have KT := Lib.hid ktw
            have MX := Lib.hid mx
            have SL := Lib.hid hl
            obtain ⟨p0, fz, row, xv, pv, lv⟩ := mx.cells
            have LV := Lib.hid lv
            have hX2 := mx.X2l
            clear mx fz row hl lv hgv ktw
            have ee : ((C' : Int) == (C' : Int)) = true := by simp
            go_wp2_with fail
            refine (same_l _ _ _ _ _ _ (by omega) (by omega) _ SL.out LV.out).mono ?_; rintro e w10 ⟨rfl, hb⟩
            have hcv' := (hb.cell (p := ⟨gv, 0, none⟩) (block_lt_of_cell hcv)).trans hcv
            have hfr' := (hb.frozen (p := ⟨gv, 0, none⟩) (block_lt_of_cell hcv)).trans hfr
            have cap0 : (0 : Int) < (cap : Int) := by omega
            have ME := Lib.hid (mi_end MX0.out MX.out KT.out GV.out hb (.int .i64 77))
            rw [show decide (X' = X') = true by simp]
            clear hcv hfr hb MX MX0 GV KT SL LV pv p0
            go_wp2
            exact ⟨⟨k + 1, upd f n none, cs, xs, C', wh', X', s + 1, by simp, by omega, hC', Lib.hid (by omega), ME⟩, by simp [intOf]; omega⟩
        · clear WAY
          have L9 := Lib.hid (LT.out rfl)
          clear LT
          have hnl : ¬ (C : Int) ≤ cs n := by omega
          have dnl : decide ((C : Int) ≤ cs n) = false := decide_eq_false hnl
          go_wp2_with fail
          refine TK.out.mono ?_; rintro e w9 ⟨rfl, rfl⟩
          clear TK
          obtain ⟨p0', fz, row, xv, pv, lv⟩ := M8.out.cells
          obtain ⟨ra, rc2, rx⟩ := row n n4
          clear p0' fz row pv lv ra rc2
          generalize hcn : cs n = cc at *
          go_wp2_with fail
          go_region_held3 (fun w' => w'.cell? ⟨pc, n, none⟩ = some (.int .i64 cc) ∧ w'.cell? ⟨pw, 0, none⟩ = some (.int .i64 (C : Int))) (first | exact ⟨rc1, p0⟩ | (refine ⟨?_, ?_⟩ <;> simp [go_sem, *])) (first | fail)
          all_goals
            go_upto_region 29 with fail
            have MD := Lib.hid M8.out.dr.dr
            have LD := Lib.hid (show Lst (b + 1) (xs n) X' w8.drew.drew from L9.out)
            have T := Lib.hid (mi_take MD.out (xs n) cc X' MD.out.X2l LD.out)
            have rxd : w8.drew.cell? ⟨px, n, none⟩ = some (xs n) := rx
            have rcd : w8.drew.cell? ⟨pc, n, none⟩ = some (.int .i64 cc) := rc1
            clear rx rc1 p0 ra' f1 hnl dnl
            go_region_held3 (fun w' => w'.cell? ⟨px, n, none⟩ = some (xs n) ∧ w'.cell? ⟨pc, n, none⟩ = some (.int .i64 cc)) (first | exact ⟨rxd, rcd⟩ | exact ⟨rx2, rc2⟩)
              (first | (go_at_call 18; (with_reducible refine T.out.mono ?_); rintro e w9 ⟨rfl, mx⟩; obtain ⟨p0, fz, row, xv2, pv, lv⟩ := mx.cells; obtain ⟨ra, rc2, rx2⟩ := row n n4; rw [hcn] at rc2; have MX := Lib.hid mx; clear mx p0 fz row pv lv ra))
            all_goals
              have MX : Hid (Mi q g b kb pw pa pc px w.heap.size f (upd f n none) cs xs C' wh' X' (C' : Int) X' (s + 1) w w9) := by rw [hcc2]; exact MX
              obtain ⟨p0, fz, row, xv2, pv, lv⟩ := MX.out.cells
              obtain ⟨ra, rc3, rx3⟩ := row n n4
              obtain ⟨f1, f2, f3, f4⟩ := fz n
              rw [hf] at ra
              have ra' : w9.cell? ⟨pa, n, none⟩ = some (.pointer (some ⟨p, 0, none⟩)) := ra
              clear p0 fz row pv lv ra rc3 rx3 f2 f3 f4 T MD LD M8 rxd rcd rx2 rc2 L9
              have MX := Lib.hid (MX.out.sa n n4 none)
              go_upto_region 33 with fail
              have MX : Hid (Mi q g b kb pw pa pc px w.heap.size (upd f n none) (upd f n none) cs xs C' wh' X' C' X' (s + 1) w (w9.setCell ⟨pa, n, none⟩ (.pointer none))) := MX
              generalize (w9.setCell ⟨pa, n, none⟩ (.pointer none)) = w11 at *
              clear ra' f1
              go_wp2_with fail
              refine (mi_best MX.out).mono ?_; rintro e w9 ⟨gv, cap, rfl, hgv, hl, mx, hcap, ⟨cv, hcv⟩, hfr, ktw⟩
              have MX0 := Lib.hid MX.out
              have GV := Lib.hid hgv
              have KT := Lib.hid ktw
              have MX := Lib.hid mx
              have SL := Lib.hid hl
              obtain ⟨p0, fz, row, xv, pv, lv⟩ := mx.cells
              have LV := Lib.hid lv
              have hX2 := mx.X2l
              clear mx fz row hl lv hgv ktw
              have ee : ((C' : Int) == (C' : Int)) = true := by simp
              go_wp2_with fail
              refine (same_l _ _ _ _ _ _ (by omega) (by omega) _ SL.out LV.out).mono ?_; rintro e w10 ⟨rfl, hb⟩
              have hcv' := (hb.cell (p := ⟨gv, 0, none⟩) (block_lt_of_cell hcv)).trans hcv
              have hfr' := (hb.frozen (p := ⟨gv, 0, none⟩) (block_lt_of_cell hcv)).trans hfr
              have cap0 : (0 : Int) < (cap : Int) := by omega
              have ME := Lib.hid (mi_end MX0.out MX.out KT.out GV.out hb (.int .i64 77))
              rw [show decide (X' = X') = true by simp]
              clear hcv hfr hb MX MX0 GV KT SL LV pv p0
              go_wp2
              exact ⟨⟨k + 1, upd f n none, cs, xs, C', wh', X', s + 1, by simp, by omega, hC', Lib.hid (by omega), ME⟩, by simp [intOf]; omega⟩
    · by_cases hm2 : m = 200
      · have i2 : ¬ (k : Int) < 200 := by omega
        by_cases i1 : (k : Int) < (rn : Int)
        · obtain ⟨p0, fz, row, xv, pv, lv⟩ := MX.out.cells
          clear fz row pv lv
          have LK := Lib.hid (mi_look2 (by have := BD.out; omega) (by have := BD.out; omega) MX.out.dr)
          clear BD MX HN HN2 R
          have ee : ((C : Int) == (C : Int)) = true := by simp
          go_wp2_with fail
          go_region_held3 (fun w' => w'.cell? ⟨pw, 0, none⟩ = some (.int .i64 (C : Int))) (first | exact p0 | exact hc9)
            (first | (go_at_call 11; (with_reducible refine LK.out.mono ?_); rintro e w9 ⟨rfl, hb, hc9⟩; have B := Lib.hid hb; clear hb))
          all_goals
            go_wp2
            go_ret
            exact ⟨rfl, B.out⟩
        · obtain ⟨p0, fz, row, xv, pv, lv⟩ := MX.out.cells
          clear fz row pv lv
          have LK := Lib.hid (mi_look2 (by have := BD.out; omega) (by have := BD.out; omega) MX.out.dr)
          clear BD MX HN HN2 R
          have ee : ((C : Int) == (C : Int)) = true := by simp
          go_wp2_with fail
          go_region_held3 (fun w' => w'.cell? ⟨pw, 0, none⟩ = some (.int .i64 (C : Int))) (first | exact p0 | exact hc9)
            (first | (go_at_call 11; (with_reducible refine LK.out.mono ?_); rintro e w9 ⟨rfl, hb, hc9⟩; have B := Lib.hid hb; clear hb))
          all_goals
            go_wp2
            go_ret
            exact ⟨rfl, B.out⟩
      · have i1 : ¬ (k : Int) < (rn : Int) := by have := HN2.out hm2; omega
        obtain ⟨p0, fz, row, xv, pv, lv⟩ := MX.out.cells
        clear fz row pv lv
        have LK := Lib.hid (mi_look2 (by have := BD.out; omega) (by have := BD.out; omega) MX.out.dr)
        clear BD MX HN HN2 R
        have ee : ((C : Int) == (C : Int)) = true := by simp
        go_wp2_with fail
        go_region_held3 (fun w' => w'.cell? ⟨pw, 0, none⟩ = some (.int .i64 (C : Int))) (first | exact p0 | exact hc9)
          (first | (go_at_call 11; (with_reducible refine LK.out.mono ?_); rintro e w9 ⟨rfl, hb, hc9⟩; have B := Lib.hid hb; clear hb))
        all_goals
          go_wp2
          go_ret
          exact ⟨rfl, B.out⟩
end Go.Proofs.Ytpmkpmenjaekmaa

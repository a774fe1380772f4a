/-
  What a step leaves.
-/
import Derived.Test.YtaihmkflhapjeaaMem
namespace Go.Proofs.Ytaihmkflhapjeaa
open Go.RowKit Go.MuLone
set_option linter.unusedVariables false
/-- what a step's stores leave -/
structure Aft (g b r : Nat) (l : List Int) (ix : Nat) (s K x nw : Int) (dn : Bool) (w W2 : World) : Prop where
  c0 : W2.cell? ⟨g, 0, none⟩ = some (.int .i32 1)
  f0 : W2.frozen? ⟨g, 0, none⟩ = false
  mb : MB 0 g b (l.set ix nw) (s + 1) K ix x nw dn (W2.setCell ⟨g, 0, none⟩ (.int .i32 0))
  rr : (W2.setCell ⟨g, 0, none⟩ (.int .i32 0)).heap[r]? = some (.cells #[.int .i64 K, .int .i64 ix, .int .i64 x, .int .i64 nw, .bool dn] 74 (0, 0))
  ch : Ch g b w (W2.setCell ⟨g, 0, none⟩ (.int .i32 0))
set_option maxHeartbeats 2000000 in
theorem aft_of (g b r : Nat) (l : List Int) (ix : Nat) (s k c o n K x nw : Int) (d dn : Bool) (w w1 : World) (v0 v1 v2 v3 v4 : Value) (hN : MB 1 g b l s k c o n d w1) (hR : w1.heap[r]? = some (.cells #[v0, v1, v2, v3, v4] 74 (0, 0))) (h1 : r ≠ g) (h2 : r ≠ b) (hr : w.heap.size ≤ r) (hC : Ch g b w w1) :
    Aft g b r l ix s K x nw dn w ((((((((((((w1.setCell ⟨b, ix, none⟩ (.int .i64 nw)).setCell ⟨g, 3, none⟩ (.int .i64 (s + 1))).setCell ⟨g, 4, none⟩ (.int .i64 K)).setCell ⟨g, 5, none⟩ (.int .i64 ix)).setCell ⟨g, 6, none⟩ (.int .i64 x)).setCell ⟨g, 7, none⟩ (.int .i64 nw)).setCell ⟨g, 8, none⟩ (.bool dn)).setCell ⟨r, 0, none⟩ (.int .i64 K)).setCell ⟨r, 1, none⟩ (.int .i64 ix)).setCell ⟨r, 2, none⟩ (.int .i64 x)).setCell ⟨r, 3, none⟩ (.int .i64 nw)).setCell ⟨r, 4, none⟩ (.bool dn)) := by
  have ne := hN.ne
  obtain ⟨u1, hu1⟩ : ∃ u, u = w1.setCell ⟨b, ix, none⟩ (.int .i64 nw) := ⟨_, rfl⟩
  have a1 : u1.heap[g]? = some (.cells #[.int .i32 1, .int .u32 0, .slice (some ⟨b, 0, none⟩) l.length l.length, .int .i64 s, .int .i64 k, .int .i64 c, .int .i64 o, .int .i64 n, .bool d] 76 (0, 0)) := by rw [hu1]; exact blk_oth hN.1 ne ix (.int .i64 nw)
  have b1 : u1.heap[b]? = some (.cells (enc (l.set ix nw)) 3 (0, 0)) := by rw [hu1, ← enc_set]; exact blk_set hN.2 ix _
  have r1 : u1.heap[r]? = some (.cells #[v0, v1, v2, v3, v4] 74 (0, 0)) := by rw [hu1]; exact blk_oth hR h2 ix (.int .i64 nw)
  have c1 : Ch g b w u1 := by rw [hu1]; exact hC.st (.inr (.inl rfl)) ix _
  obtain ⟨u2, hu2⟩ : ∃ u, u = u1.setCell ⟨g, 3, none⟩ (.int .i64 (s + 1)) := ⟨_, rfl⟩
  have a2 : u2.heap[g]? = some (.cells #[.int .i32 1, .int .u32 0, .slice (some ⟨b, 0, none⟩) l.length l.length, .int .i64 (s + 1), .int .i64 k, .int .i64 c, .int .i64 o, .int .i64 n, .bool d] 76 (0, 0)) := by rw [hu2]; exact blk_set a1 3 (.int .i64 (s + 1))
  have b2 : u2.heap[b]? = some (.cells (enc (l.set ix nw)) 3 (0, 0)) := by rw [hu2]; exact blk_oth b1 ne.symm 3 (.int .i64 (s + 1))
  have r2 : u2.heap[r]? = some (.cells #[v0, v1, v2, v3, v4] 74 (0, 0)) := by rw [hu2]; exact blk_oth r1 h1 3 (.int .i64 (s + 1))
  have c2 : Ch g b w u2 := by rw [hu2]; exact c1.st (.inl rfl) 3 _
  obtain ⟨u3, hu3⟩ : ∃ u, u = u2.setCell ⟨g, 4, none⟩ (.int .i64 K) := ⟨_, rfl⟩
  have a3 : u3.heap[g]? = some (.cells #[.int .i32 1, .int .u32 0, .slice (some ⟨b, 0, none⟩) l.length l.length, .int .i64 (s + 1), .int .i64 K, .int .i64 c, .int .i64 o, .int .i64 n, .bool d] 76 (0, 0)) := by rw [hu3]; exact blk_set a2 4 (.int .i64 K)
  have b3 : u3.heap[b]? = some (.cells (enc (l.set ix nw)) 3 (0, 0)) := by rw [hu3]; exact blk_oth b2 ne.symm 4 (.int .i64 K)
  have r3 : u3.heap[r]? = some (.cells #[v0, v1, v2, v3, v4] 74 (0, 0)) := by rw [hu3]; exact blk_oth r2 h1 4 (.int .i64 K)
  have c3 : Ch g b w u3 := by rw [hu3]; exact c2.st (.inl rfl) 4 _
  obtain ⟨u4, hu4⟩ : ∃ u, u = u3.setCell ⟨g, 5, none⟩ (.int .i64 ix) := ⟨_, rfl⟩
  have a4 : u4.heap[g]? = some (.cells #[.int .i32 1, .int .u32 0, .slice (some ⟨b, 0, none⟩) l.length l.length, .int .i64 (s + 1), .int .i64 K, .int .i64 ix, .int .i64 o, .int .i64 n, .bool d] 76 (0, 0)) := by rw [hu4]; exact blk_set a3 5 (.int .i64 ix)
  have b4 : u4.heap[b]? = some (.cells (enc (l.set ix nw)) 3 (0, 0)) := by rw [hu4]; exact blk_oth b3 ne.symm 5 (.int .i64 ix)
  have r4 : u4.heap[r]? = some (.cells #[v0, v1, v2, v3, v4] 74 (0, 0)) := by rw [hu4]; exact blk_oth r3 h1 5 (.int .i64 ix)
  have c4 : Ch g b w u4 := by rw [hu4]; exact c3.st (.inl rfl) 5 _
  obtain ⟨u5, hu5⟩ : ∃ u, u = u4.setCell ⟨g, 6, none⟩ (.int .i64 x) := ⟨_, rfl⟩
  have a5 : u5.heap[g]? = some (.cells #[.int .i32 1, .int .u32 0, .slice (some ⟨b, 0, none⟩) l.length l.length, .int .i64 (s + 1), .int .i64 K, .int .i64 ix, .int .i64 x, .int .i64 n, .bool d] 76 (0, 0)) := by rw [hu5]; exact blk_set a4 6 (.int .i64 x)
  have b5 : u5.heap[b]? = some (.cells (enc (l.set ix nw)) 3 (0, 0)) := by rw [hu5]; exact blk_oth b4 ne.symm 6 (.int .i64 x)
  have r5 : u5.heap[r]? = some (.cells #[v0, v1, v2, v3, v4] 74 (0, 0)) := by rw [hu5]; exact blk_oth r4 h1 6 (.int .i64 x)
  have c5 : Ch g b w u5 := by rw [hu5]; exact c4.st (.inl rfl) 6 _
  obtain ⟨u6, hu6⟩ : ∃ u, u = u5.setCell ⟨g, 7, none⟩ (.int .i64 nw) := ⟨_, rfl⟩
  have a6 : u6.heap[g]? = some (.cells #[.int .i32 1, .int .u32 0, .slice (some ⟨b, 0, none⟩) l.length l.length, .int .i64 (s + 1), .int .i64 K, .int .i64 ix, .int .i64 x, .int .i64 nw, .bool d] 76 (0, 0)) := by rw [hu6]; exact blk_set a5 7 (.int .i64 nw)
  have b6 : u6.heap[b]? = some (.cells (enc (l.set ix nw)) 3 (0, 0)) := by rw [hu6]; exact blk_oth b5 ne.symm 7 (.int .i64 nw)
  have r6 : u6.heap[r]? = some (.cells #[v0, v1, v2, v3, v4] 74 (0, 0)) := by rw [hu6]; exact blk_oth r5 h1 7 (.int .i64 nw)
  have c6 : Ch g b w u6 := by rw [hu6]; exact c5.st (.inl rfl) 7 _
  obtain ⟨u7, hu7⟩ : ∃ u, u = u6.setCell ⟨g, 8, none⟩ (.bool dn) := ⟨_, rfl⟩
  have a7 : u7.heap[g]? = some (.cells #[.int .i32 1, .int .u32 0, .slice (some ⟨b, 0, none⟩) l.length l.length, .int .i64 (s + 1), .int .i64 K, .int .i64 ix, .int .i64 x, .int .i64 nw, .bool dn] 76 (0, 0)) := by rw [hu7]; exact blk_set a6 8 (.bool dn)
  have b7 : u7.heap[b]? = some (.cells (enc (l.set ix nw)) 3 (0, 0)) := by rw [hu7]; exact blk_oth b6 ne.symm 8 (.bool dn)
  have r7 : u7.heap[r]? = some (.cells #[v0, v1, v2, v3, v4] 74 (0, 0)) := by rw [hu7]; exact blk_oth r6 h1 8 (.bool dn)
  have c7 : Ch g b w u7 := by rw [hu7]; exact c6.st (.inl rfl) 8 _
  obtain ⟨u8, hu8⟩ : ∃ u, u = u7.setCell ⟨r, 0, none⟩ (.int .i64 K) := ⟨_, rfl⟩
  have a8 : u8.heap[g]? = some (.cells #[.int .i32 1, .int .u32 0, .slice (some ⟨b, 0, none⟩) l.length l.length, .int .i64 (s + 1), .int .i64 K, .int .i64 ix, .int .i64 x, .int .i64 nw, .bool dn] 76 (0, 0)) := by rw [hu8]; exact blk_oth a7 h1.symm 0 (.int .i64 K)
  have b8 : u8.heap[b]? = some (.cells (enc (l.set ix nw)) 3 (0, 0)) := by rw [hu8]; exact blk_oth b7 h2.symm 0 (.int .i64 K)
  have r8 : u8.heap[r]? = some (.cells #[.int .i64 K, v1, v2, v3, v4] 74 (0, 0)) := by rw [hu8]; exact blk_set r7 0 (.int .i64 K)
  have c8 : Ch g b w u8 := by rw [hu8]; exact c7.st (.inr (.inr hr)) 0 _
  obtain ⟨u9, hu9⟩ : ∃ u, u = u8.setCell ⟨r, 1, none⟩ (.int .i64 ix) := ⟨_, rfl⟩
  have a9 : u9.heap[g]? = some (.cells #[.int .i32 1, .int .u32 0, .slice (some ⟨b, 0, none⟩) l.length l.length, .int .i64 (s + 1), .int .i64 K, .int .i64 ix, .int .i64 x, .int .i64 nw, .bool dn] 76 (0, 0)) := by rw [hu9]; exact blk_oth a8 h1.symm 1 (.int .i64 ix)
  have b9 : u9.heap[b]? = some (.cells (enc (l.set ix nw)) 3 (0, 0)) := by rw [hu9]; exact blk_oth b8 h2.symm 1 (.int .i64 ix)
  have r9 : u9.heap[r]? = some (.cells #[.int .i64 K, .int .i64 ix, v2, v3, v4] 74 (0, 0)) := by rw [hu9]; exact blk_set r8 1 (.int .i64 ix)
  have c9 : Ch g b w u9 := by rw [hu9]; exact c8.st (.inr (.inr hr)) 1 _
  obtain ⟨u10, hu10⟩ : ∃ u, u = u9.setCell ⟨r, 2, none⟩ (.int .i64 x) := ⟨_, rfl⟩
  have a10 : u10.heap[g]? = some (.cells #[.int .i32 1, .int .u32 0, .slice (some ⟨b, 0, none⟩) l.length l.length, .int .i64 (s + 1), .int .i64 K, .int .i64 ix, .int .i64 x, .int .i64 nw, .bool dn] 76 (0, 0)) := by rw [hu10]; exact blk_oth a9 h1.symm 2 (.int .i64 x)
  have b10 : u10.heap[b]? = some (.cells (enc (l.set ix nw)) 3 (0, 0)) := by rw [hu10]; exact blk_oth b9 h2.symm 2 (.int .i64 x)
  have r10 : u10.heap[r]? = some (.cells #[.int .i64 K, .int .i64 ix, .int .i64 x, v3, v4] 74 (0, 0)) := by rw [hu10]; exact blk_set r9 2 (.int .i64 x)
  have c10 : Ch g b w u10 := by rw [hu10]; exact c9.st (.inr (.inr hr)) 2 _
  obtain ⟨u11, hu11⟩ : ∃ u, u = u10.setCell ⟨r, 3, none⟩ (.int .i64 nw) := ⟨_, rfl⟩
  have a11 : u11.heap[g]? = some (.cells #[.int .i32 1, .int .u32 0, .slice (some ⟨b, 0, none⟩) l.length l.length, .int .i64 (s + 1), .int .i64 K, .int .i64 ix, .int .i64 x, .int .i64 nw, .bool dn] 76 (0, 0)) := by rw [hu11]; exact blk_oth a10 h1.symm 3 (.int .i64 nw)
  have b11 : u11.heap[b]? = some (.cells (enc (l.set ix nw)) 3 (0, 0)) := by rw [hu11]; exact blk_oth b10 h2.symm 3 (.int .i64 nw)
  have r11 : u11.heap[r]? = some (.cells #[.int .i64 K, .int .i64 ix, .int .i64 x, .int .i64 nw, v4] 74 (0, 0)) := by rw [hu11]; exact blk_set r10 3 (.int .i64 nw)
  have c11 : Ch g b w u11 := by rw [hu11]; exact c10.st (.inr (.inr hr)) 3 _
  obtain ⟨u12, hu12⟩ : ∃ u, u = u11.setCell ⟨r, 4, none⟩ (.bool dn) := ⟨_, rfl⟩
  have a12 : u12.heap[g]? = some (.cells #[.int .i32 1, .int .u32 0, .slice (some ⟨b, 0, none⟩) l.length l.length, .int .i64 (s + 1), .int .i64 K, .int .i64 ix, .int .i64 x, .int .i64 nw, .bool dn] 76 (0, 0)) := by rw [hu12]; exact blk_oth a11 h1.symm 4 (.bool dn)
  have b12 : u12.heap[b]? = some (.cells (enc (l.set ix nw)) 3 (0, 0)) := by rw [hu12]; exact blk_oth b11 h2.symm 4 (.bool dn)
  have r12 : u12.heap[r]? = some (.cells #[.int .i64 K, .int .i64 ix, .int .i64 x, .int .i64 nw, .bool dn] 74 (0, 0)) := by rw [hu12]; exact blk_set r11 4 (.bool dn)
  have c12 : Ch g b w u12 := by rw [hu12]; exact c11.st (.inr (.inr hr)) 4 _
  obtain ⟨u13, hu13⟩ : ∃ u, u = u12.setCell ⟨g, 0, none⟩ (.int .i32 0) := ⟨_, rfl⟩
  have a13 : u13.heap[g]? = some (.cells #[.int .i32 0, .int .u32 0, .slice (some ⟨b, 0, none⟩) l.length l.length, .int .i64 (s + 1), .int .i64 K, .int .i64 ix, .int .i64 x, .int .i64 nw, .bool dn] 76 (0, 0)) := by rw [hu13]; exact blk_set a12 0 (.int .i32 0)
  have b13 : u13.heap[b]? = some (.cells (enc (l.set ix nw)) 3 (0, 0)) := by rw [hu13]; exact blk_oth b12 ne.symm 0 (.int .i32 0)
  have r13 : u13.heap[r]? = some (.cells #[.int .i64 K, .int .i64 ix, .int .i64 x, .int .i64 nw, .bool dn] 74 (0, 0)) := by rw [hu13]; exact blk_oth r12 h1 0 (.int .i32 0)
  have c13 : Ch g b w u13 := by rw [hu13]; exact c12.st (.inl rfl) 0 _
  have hz : (l.set ix nw).length = l.length := by simp
  have key : Aft g b r l ix s K x nw dn w u12 := ⟨(cell_of_row _ g 0 _ 76 _ a12).trans rfl, by simp [World.frozen?, a12], by rw [← hu13]; exact ⟨by rw [hz]; exact a13, b13⟩, by rw [← hu13]; exact r13, by rw [← hu13]; exact c13⟩
  rw [hu12, hu11, hu10, hu9, hu8, hu7, hu6, hu5, hu4, hu3, hu2, hu1] at key
  exact key
set_option maxRecDepth 100000 in
set_option maxHeartbeats 4000000 in
theorem step25 (g b : Nat) (l : List Int) (s k c o n : Int) (d : Bool) (K i x nw : Int) (dn : Bool) (ix : Nat) (hi : i = ix) (hx : ix < l.length) (hn : nth l ix = x) (s0 : 0 ≤ s) (s1 : s ≤ 1000000) (w : World) (h : MB 0 g b l s k c o n d w)
    (HC : ∀ X, MB 1 g b l s k c o n d X → Ch g b w X → Calls Try.prog 59 #[.int .i64 x] X fun e w' => e = .returned (.tuple #[.int .i64 nw, .bool dn, .int .i64 0]) ∧ X = w') :
    Calls Try.prog 44 #[.pointer (some ⟨g, 0, none⟩), .int .i64 K, .int .i64 i, .func (.func 59) #[] #[]] w fun e w' => e = .returned (.tuple #[.agg #[.int .i64 K, .int .i64 i, .int .i64 x, .int .i64 nw, .bool dn], .int .i64 0]) ∧ MB 0 g b (l.set ix nw) (s + 1) K i x nw dn w' ∧ Ch g b w w' := by
  have HM := Lib.hid h
  have HCh := Lib.hid HC
  clear h HC
  have M1 : Hid (∀ X, Below w.heap.size w X → MB 1 g b l s k c o n d (X.setCell ⟨g, 0, none⟩ (.int .i32 1))) := fun X hX => ⟨blk_set (HM.out.keep hX).1 0 _, blk_oth (HM.out.keep hX).2 HM.out.ne.symm 0 _⟩
  have B0 := Lib.hid (bl_al (Below.refl _ w) (.cells #[.int .i64 0, .int .i64 0, .int .i64 0, .int .i64 0, .bool false] 74))
  go_enter_defers Try.func44, Try.ntmps44
  go_wp2_with fail
  have hz0 := HM.out.mc.c0
  have hzf := HM.out.mc.fg 0
  refine (lock_free muLib ⟨g, 0, none⟩ _ ?_ ?_).mono ?_
  · exact (B0.out.cell (p := ⟨g, 0, none⟩) (lt_hp HM.out.1)).trans hz0
  · exact (B0.out.frozen (p := ⟨g, 0, none⟩) (lt_hp HM.out.1)).trans hzf
  clear hz0 hzf
  rintro e w1 ⟨rfl, hw1⟩
  have R1 : Hid (w1.heap[w.heap.size]? = some (.cells #[.int .i64 0, .int .i64 0, .int .i64 0, .int .i64 0, .bool false] 74 (0, 0))) := by
    show _ = _
    rw [hw1]; exact blk_oth (heap_alloc_new _ _) (by have := lt_hp HM.out.1; omega) 0 _
  have C1 : Hid (Ch g b w w1) := by
    show Ch _ _ _ _
    rw [hw1]; exact ((Ch.refl g b w).al _).st (.inl rfl) 0 _
  have N1 : Hid (MB 1 g b l s k c o n d w1) := by
    show MB _ _ _ _ _ _ _ _ _ _ _
    rw [hw1]; exact M1.out _ B0.out
  have NE := Lib.hid HM.out.ne
  have LG := Lib.hid (lt_hp HM.out.1)
  have LB := Lib.hid (lt_hp HM.out.2)
  have AF := Lib.hid (aft_of g b w.heap.size l ix s k c o n K x nw d dn w w1 _ _ _ _ _ N1.out R1.out (by have := LG.out; omega) (by have := LB.out; omega) (Nat.le_refl _) C1.out)
  clear hw1 M1 B0
  have Hh := Lib.hid (has_yes 1 g b l s k c o n d i (by omega) (by omega) w1 N1.out)
  have Hc := Lib.hid (HCh.out w1 N1.out C1.out)
  obtain ⟨c0, c2, c3, c4, c5, c6, c7, c8, fg, cb, fb⟩ := N1.out.mc
  have cx := cb ix hx
  rw [hn] at cx
  clear cb HCh hn
  have r0 := cell_of_row w1 _ 0 _ 74 _ R1.out
  have r1 := cell_of_row w1 _ 1 _ 74 _ R1.out
  have r2 := cell_of_row w1 _ 2 _ 74 _ R1.out
  have r3 := cell_of_row w1 _ 3 _ 74 _ R1.out
  have r4 := cell_of_row w1 _ 4 _ 74 _ R1.out
  have fr : ∀ j, w1.frozen? ⟨w.heap.size, j, none⟩ = false := fun j => by have := R1.out; simp [World.frozen?, this]
  have ne1 : w.heap.size ≠ g := by have := LG.out; omega
  have ne2 : w.heap.size ≠ b := by have := LB.out; omega
  have ne3 : g ≠ b := NE.out
  simp at r0 r1 r2 r3 r4
  have hlen : l.length = l.length := rfl
  generalize w.heap.size = r at *
  subst hi
  have HL := Lib.hid (enc_set l ix nw)
  have HLs := Lib.hid (show (l.set ix nw).length = l.length by simp)
  generalize hm : l.length = m at *
  have HMm := Lib.hid hm
  clear hm hlen
  go_wp2_with fail
  refine Hh.out.mono ?_; rintro e w2 ⟨rfl, rfl⟩
  go_wp2_with fail
  refine Hc.out.mono ?_; rintro e w2 ⟨rfl, rfl⟩
  go_wp2_with fail
  clear c0 c2 c3 c4 c5 c6 c7 c8 fg fb cx r0 r1 r2 r3 r4 fr
  generalize w1.setCell ⟨b, ix, none⟩ (.int .i64 nw) = u1 at *
  refine leaves_cons (f := 42) (args := #[.pointer (some ⟨g, 0, none⟩)]) (by simp) (by simp [go_sem]) ?_
  refine (unlock_deferred muLib ⟨g, 0, none⟩ .returning _ ?_ ?_).mono ?_
  · exact AF.out.c0
  · exact AF.out.f0
  rintro e u' w'' ⟨rfl, rfl, hw⟩
  have q0 := cell_of_row _ r 0 _ 74 _ AF.out.rr
  have q1 := cell_of_row _ r 1 _ 74 _ AF.out.rr
  have q2 := cell_of_row _ r 2 _ 74 _ AF.out.rr
  have q3 := cell_of_row _ r 3 _ 74 _ AF.out.rr
  have q4 := cell_of_row _ r 4 _ 74 _ AF.out.rr
  have P1 := AF.out.mb
  have P2 := AF.out.ch
  rw [← hw] at q0 q1 q2 q3 q4 P1 P2
  simp at q0 q1 q2 q3 q4
  simp [Leaves, settle, results, Try.results44, go_sem, q0, q1, q2, q3, q4]
  exact ⟨P1, P2⟩
set_option maxRecDepth 100000 in
set_option maxHeartbeats 4000000 in
theorem step26 (g b : Nat) (l : List Int) (s k c o n : Int) (d : Bool) (K i x nw : Int) (dn : Bool) (ix : Nat) (hi : i = ix) (hx : ix < l.length) (hn : nth l ix = x) (s0 : 0 ≤ s) (s1 : s ≤ 1000000) (w : World) (h : MB 0 g b l s k c o n d w)
    (p1 p2 : Option Addr) (HC : ∀ X, MB 1 g b l s k c o n d X → Ch g b w X → Calls Try.prog 69 #[.int .i64 x, .pointer p1, .pointer p2] X fun e w' => e = .returned (.tuple #[.int .i64 nw, .bool dn, .int .i64 0]) ∧ X = w') :
    Calls Try.prog 44 #[.pointer (some ⟨g, 0, none⟩), .int .i64 K, .int .i64 i, .func (.func 69) #[] #[.pointer p1, .pointer p2]] w fun e w' => e = .returned (.tuple #[.agg #[.int .i64 K, .int .i64 i, .int .i64 x, .int .i64 nw, .bool dn], .int .i64 0]) ∧ MB 0 g b (l.set ix nw) (s + 1) K i x nw dn w' ∧ Ch g b w w' := by
  have HM := Lib.hid h
  have HCh := Lib.hid HC
  clear h HC
  have M1 : Hid (∀ X, Below w.heap.size w X → MB 1 g b l s k c o n d (X.setCell ⟨g, 0, none⟩ (.int .i32 1))) := fun X hX => ⟨blk_set (HM.out.keep hX).1 0 _, blk_oth (HM.out.keep hX).2 HM.out.ne.symm 0 _⟩
  have B0 := Lib.hid (bl_al (Below.refl _ w) (.cells #[.int .i64 0, .int .i64 0, .int .i64 0, .int .i64 0, .bool false] 74))
  go_enter_defers Try.func44, Try.ntmps44
  go_wp2_with fail
  have hz0 := HM.out.mc.c0
  have hzf := HM.out.mc.fg 0
  refine (lock_free muLib ⟨g, 0, none⟩ _ ?_ ?_).mono ?_
  · exact (B0.out.cell (p := ⟨g, 0, none⟩) (lt_hp HM.out.1)).trans hz0
  · exact (B0.out.frozen (p := ⟨g, 0, none⟩) (lt_hp HM.out.1)).trans hzf
  clear hz0 hzf
  rintro e w1 ⟨rfl, hw1⟩
  have R1 : Hid (w1.heap[w.heap.size]? = some (.cells #[.int .i64 0, .int .i64 0, .int .i64 0, .int .i64 0, .bool false] 74 (0, 0))) := by
    show _ = _
    rw [hw1]; exact blk_oth (heap_alloc_new _ _) (by have := lt_hp HM.out.1; omega) 0 _
  have C1 : Hid (Ch g b w w1) := by
    show Ch _ _ _ _
    rw [hw1]; exact ((Ch.refl g b w).al _).st (.inl rfl) 0 _
  have N1 : Hid (MB 1 g b l s k c o n d w1) := by
    show MB _ _ _ _ _ _ _ _ _ _ _
    rw [hw1]; exact M1.out _ B0.out
  have NE := Lib.hid HM.out.ne
  have LG := Lib.hid (lt_hp HM.out.1)
  have LB := Lib.hid (lt_hp HM.out.2)
  have AF := Lib.hid (aft_of g b w.heap.size l ix s k c o n K x nw d dn w w1 _ _ _ _ _ N1.out R1.out (by have := LG.out; omega) (by have := LB.out; omega) (Nat.le_refl _) C1.out)
  clear hw1 M1 B0
  have Hh := Lib.hid (has_yes 1 g b l s k c o n d i (by omega) (by omega) w1 N1.out)
  have Hc := Lib.hid (HCh.out w1 N1.out C1.out)
  obtain ⟨c0, c2, c3, c4, c5, c6, c7, c8, fg, cb, fb⟩ := N1.out.mc
  have cx := cb ix hx
  rw [hn] at cx
  clear cb HCh hn
  have r0 := cell_of_row w1 _ 0 _ 74 _ R1.out
  have r1 := cell_of_row w1 _ 1 _ 74 _ R1.out
  have r2 := cell_of_row w1 _ 2 _ 74 _ R1.out
  have r3 := cell_of_row w1 _ 3 _ 74 _ R1.out
  have r4 := cell_of_row w1 _ 4 _ 74 _ R1.out
  have fr : ∀ j, w1.frozen? ⟨w.heap.size, j, none⟩ = false := fun j => by have := R1.out; simp [World.frozen?, this]
  have ne1 : w.heap.size ≠ g := by have := LG.out; omega
  have ne2 : w.heap.size ≠ b := by have := LB.out; omega
  have ne3 : g ≠ b := NE.out
  simp at r0 r1 r2 r3 r4
  have hlen : l.length = l.length := rfl
  generalize w.heap.size = r at *
  subst hi
  have HL := Lib.hid (enc_set l ix nw)
  have HLs := Lib.hid (show (l.set ix nw).length = l.length by simp)
  generalize hm : l.length = m at *
  have HMm := Lib.hid hm
  clear hm hlen
  go_wp2_with fail
  refine Hh.out.mono ?_; rintro e w2 ⟨rfl, rfl⟩
  go_wp2_with fail
  refine Hc.out.mono ?_; rintro e w2 ⟨rfl, rfl⟩
  go_wp2_with fail
  clear c0 c2 c3 c4 c5 c6 c7 c8 fg fb cx r0 r1 r2 r3 r4 fr
  generalize w1.setCell ⟨b, ix, none⟩ (.int .i64 nw) = u1 at *
  refine leaves_cons (f := 42) (args := #[.pointer (some ⟨g, 0, none⟩)]) (by simp) (by simp [go_sem]) ?_
  refine (unlock_deferred muLib ⟨g, 0, none⟩ .returning _ ?_ ?_).mono ?_
  · exact AF.out.c0
  · exact AF.out.f0
  rintro e u' w'' ⟨rfl, rfl, hw⟩
  have q0 := cell_of_row _ r 0 _ 74 _ AF.out.rr
  have q1 := cell_of_row _ r 1 _ 74 _ AF.out.rr
  have q2 := cell_of_row _ r 2 _ 74 _ AF.out.rr
  have q3 := cell_of_row _ r 3 _ 74 _ AF.out.rr
  have q4 := cell_of_row _ r 4 _ 74 _ AF.out.rr
  have P1 := AF.out.mb
  have P2 := AF.out.ch
  rw [← hw] at q0 q1 q2 q3 q4 P1 P2
  simp at q0 q1 q2 q3 q4
  simp [Leaves, settle, results, Try.results44, go_sem, q0, q1, q2, q3, q4]
  exact ⟨P1, P2⟩
set_option maxRecDepth 100000 in
set_option maxHeartbeats 4000000 in
theorem step29 (g b : Nat) (l : List Int) (s k c o n : Int) (d : Bool) (K i x nw : Int) (dn : Bool) (ix : Nat) (hi : i = ix) (hx : ix < l.length) (hn : nth l ix = x) (s0 : 0 ≤ s) (s1 : s ≤ 1000000) (w : World) (h : MB 0 g b l s k c o n d w)
    (p1 : Option Addr) (HC : ∀ X, MB 1 g b l s k c o n d X → Ch g b w X → Calls Try.prog 45 #[.int .i64 x, .pointer p1] X fun e w' => e = .returned (.tuple #[.int .i64 nw, .bool dn, .int .i64 0]) ∧ X = w') :
    Calls Try.prog 44 #[.pointer (some ⟨g, 0, none⟩), .int .i64 K, .int .i64 i, .func (.func 45) #[] #[.pointer p1]] w fun e w' => e = .returned (.tuple #[.agg #[.int .i64 K, .int .i64 i, .int .i64 x, .int .i64 nw, .bool dn], .int .i64 0]) ∧ MB 0 g b (l.set ix nw) (s + 1) K i x nw dn w' ∧ Ch g b w w' := by
  have HM := Lib.hid h
  have HCh := Lib.hid HC
  clear h HC
  have M1 : Hid (∀ X, Below w.heap.size w X → MB 1 g b l s k c o n d (X.setCell ⟨g, 0, none⟩ (.int .i32 1))) := fun X hX => ⟨blk_set (HM.out.keep hX).1 0 _, blk_oth (HM.out.keep hX).2 HM.out.ne.symm 0 _⟩
  have B0 := Lib.hid (bl_al (Below.refl _ w) (.cells #[.int .i64 0, .int .i64 0, .int .i64 0, .int .i64 0, .bool false] 74))
  go_enter_defers Try.func44, Try.ntmps44
  go_wp2_with fail
  have hz0 := HM.out.mc.c0
  have hzf := HM.out.mc.fg 0
  refine (lock_free muLib ⟨g, 0, none⟩ _ ?_ ?_).mono ?_
  · exact (B0.out.cell (p := ⟨g, 0, none⟩) (lt_hp HM.out.1)).trans hz0
  · exact (B0.out.frozen (p := ⟨g, 0, none⟩) (lt_hp HM.out.1)).trans hzf
  clear hz0 hzf
  rintro e w1 ⟨rfl, hw1⟩
  have R1 : Hid (w1.heap[w.heap.size]? = some (.cells #[.int .i64 0, .int .i64 0, .int .i64 0, .int .i64 0, .bool false] 74 (0, 0))) := by
    show _ = _
    rw [hw1]; exact blk_oth (heap_alloc_new _ _) (by have := lt_hp HM.out.1; omega) 0 _
  have C1 : Hid (Ch g b w w1) := by
    show Ch _ _ _ _
    rw [hw1]; exact ((Ch.refl g b w).al _).st (.inl rfl) 0 _
  have N1 : Hid (MB 1 g b l s k c o n d w1) := by
    show MB _ _ _ _ _ _ _ _ _ _ _
    rw [hw1]; exact M1.out _ B0.out
  have NE := Lib.hid HM.out.ne
  have LG := Lib.hid (lt_hp HM.out.1)
  have LB := Lib.hid (lt_hp HM.out.2)
  have AF := Lib.hid (aft_of g b w.heap.size l ix s k c o n K x nw d dn w w1 _ _ _ _ _ N1.out R1.out (by have := LG.out; omega) (by have := LB.out; omega) (Nat.le_refl _) C1.out)
  clear hw1 M1 B0
  have Hh := Lib.hid (has_yes 1 g b l s k c o n d i (by omega) (by omega) w1 N1.out)
  have Hc := Lib.hid (HCh.out w1 N1.out C1.out)
  obtain ⟨c0, c2, c3, c4, c5, c6, c7, c8, fg, cb, fb⟩ := N1.out.mc
  have cx := cb ix hx
  rw [hn] at cx
  clear cb HCh hn
  have r0 := cell_of_row w1 _ 0 _ 74 _ R1.out
  have r1 := cell_of_row w1 _ 1 _ 74 _ R1.out
  have r2 := cell_of_row w1 _ 2 _ 74 _ R1.out
  have r3 := cell_of_row w1 _ 3 _ 74 _ R1.out
  have r4 := cell_of_row w1 _ 4 _ 74 _ R1.out
  have fr : ∀ j, w1.frozen? ⟨w.heap.size, j, none⟩ = false := fun j => by have := R1.out; simp [World.frozen?, this]
  have ne1 : w.heap.size ≠ g := by have := LG.out; omega
  have ne2 : w.heap.size ≠ b := by have := LB.out; omega
  have ne3 : g ≠ b := NE.out
  simp at r0 r1 r2 r3 r4
  have hlen : l.length = l.length := rfl
  generalize w.heap.size = r at *
  subst hi
  have HL := Lib.hid (enc_set l ix nw)
  have HLs := Lib.hid (show (l.set ix nw).length = l.length by simp)
  generalize hm : l.length = m at *
  have HMm := Lib.hid hm
  clear hm hlen
  go_wp2_with fail
  refine Hh.out.mono ?_; rintro e w2 ⟨rfl, rfl⟩
  go_wp2_with fail
  refine Hc.out.mono ?_; rintro e w2 ⟨rfl, rfl⟩
  go_wp2_with fail
  clear c0 c2 c3 c4 c5 c6 c7 c8 fg fb cx r0 r1 r2 r3 r4 fr
  generalize w1.setCell ⟨b, ix, none⟩ (.int .i64 nw) = u1 at *
  refine leaves_cons (f := 42) (args := #[.pointer (some ⟨g, 0, none⟩)]) (by simp) (by simp [go_sem]) ?_
  refine (unlock_deferred muLib ⟨g, 0, none⟩ .returning _ ?_ ?_).mono ?_
  · exact AF.out.c0
  · exact AF.out.f0
  rintro e u' w'' ⟨rfl, rfl, hw⟩
  have q0 := cell_of_row _ r 0 _ 74 _ AF.out.rr
  have q1 := cell_of_row _ r 1 _ 74 _ AF.out.rr
  have q2 := cell_of_row _ r 2 _ 74 _ AF.out.rr
  have q3 := cell_of_row _ r 3 _ 74 _ AF.out.rr
  have q4 := cell_of_row _ r 4 _ 74 _ AF.out.rr
  have P1 := AF.out.mb
  have P2 := AF.out.ch
  rw [← hw] at q0 q1 q2 q3 q4 P1 P2
  simp at q0 q1 q2 q3 q4
  simp [Leaves, settle, results, Try.results44, go_sem, q0, q1, q2, q3, q4]
  exact ⟨P1, P2⟩
/-- what a step that isn't made leaves -/
structure Bad (g b r : Nat) (l : List Int) (s k c o n : Int) (d : Bool) (w W2 : World) : Prop where
  c0 : W2.cell? ⟨g, 0, none⟩ = some (.int .i32 1)
  f0 : W2.frozen? ⟨g, 0, none⟩ = false
  mb : MB 0 g b l s k c o n d (W2.setCell ⟨g, 0, none⟩ (.int .i32 0))
  rr : (W2.setCell ⟨g, 0, none⟩ (.int .i32 0)).heap[r]? = some (.cells #[.int .i64 0, .int .i64 0, .int .i64 0, .int .i64 0, .bool false] 74 (0, 0))
  ch : Ch g b w (W2.setCell ⟨g, 0, none⟩ (.int .i32 0))
theorem bad_of (g b r : Nat) (l : List Int) (s k c o n : Int) (d : Bool) (w w1 : World) (hN : MB 1 g b l s k c o n d w1) (hR : w1.heap[r]? = some (.cells #[.int .i64 0, .int .i64 0, .int .i64 0, .int .i64 0, .bool false] 74 (0, 0))) (h1 : r ≠ g) (h2 : r ≠ b) (hr : w.heap.size ≤ r) (hC : Ch g b w w1) :
    Bad g b r l s k c o n d w (((((w1.setCell ⟨r, 0, none⟩ (.int .i64 0)).setCell ⟨r, 1, none⟩ (.int .i64 0)).setCell ⟨r, 2, none⟩ (.int .i64 0)).setCell ⟨r, 3, none⟩ (.int .i64 0)).setCell ⟨r, 4, none⟩ (.bool false)) := by
  have a1 := blk_oth (blk_oth (blk_oth (blk_oth (blk_oth hN.1 h1.symm 0 (.int .i64 0)) h1.symm 1 (.int .i64 0)) h1.symm 2 (.int .i64 0)) h1.symm 3 (.int .i64 0)) h1.symm 4 (.bool false)
  have b1 := blk_oth (blk_oth (blk_oth (blk_oth (blk_oth hN.2 h2.symm 0 (.int .i64 0)) h2.symm 1 (.int .i64 0)) h2.symm 2 (.int .i64 0)) h2.symm 3 (.int .i64 0)) h2.symm 4 (.bool false)
  have r1 := blk_set (blk_set (blk_set (blk_set (blk_set hR 0 (.int .i64 0)) 1 (.int .i64 0)) 2 (.int .i64 0)) 3 (.int .i64 0)) 4 (.bool false)
  have c1 := ((((hC.st (.inr (.inr hr)) 0 (.int .i64 0)).st (.inr (.inr hr)) 1 (.int .i64 0)).st (.inr (.inr hr)) 2 (.int .i64 0)).st (.inr (.inr hr)) 3 (.int .i64 0)).st (.inr (.inr hr)) 4 (.bool false)
  generalize (((((w1.setCell ⟨r, 0, none⟩ (.int .i64 0)).setCell ⟨r, 1, none⟩ (.int .i64 0)).setCell ⟨r, 2, none⟩ (.int .i64 0)).setCell ⟨r, 3, none⟩ (.int .i64 0)).setCell ⟨r, 4, none⟩ (.bool false)) = u at *
  exact ⟨(cell_of_row _ g 0 _ 76 _ a1).trans rfl, by simp [World.frozen?, a1], ⟨blk_set a1 0 _, blk_oth b1 hN.ne.symm 0 _⟩, blk_oth r1 h1 0 _, c1.st (.inl rfl) 0 _⟩
set_option maxRecDepth 100000 in
set_option maxHeartbeats 4000000 in
theorem step_miss (g b : Nat) (l : List Int) (s k c o n : Int) (d : Bool) (K i : Int) (F : Value) (hi : i < 0 ∨ (l.length : Int) ≤ i) (w : World) (h : MB 0 g b l s k c o n d w) :
    Calls Try.prog 44 #[.pointer (some ⟨g, 0, none⟩), .int .i64 K, .int .i64 i, F] w fun e w' => e = .returned (.tuple #[.agg #[.int .i64 0, .int .i64 0, .int .i64 0, .int .i64 0, .bool false], .int .i64 11]) ∧ MB 0 g b l s k c o n d w' ∧ Ch g b w w' := by
  have HM := Lib.hid h
  clear h
  have B0 := Lib.hid (bl_al (Below.refl _ w) (.cells #[.int .i64 0, .int .i64 0, .int .i64 0, .int .i64 0, .bool false] 74))
  go_enter_defers Try.func44, Try.ntmps44
  go_wp2_with fail
  have hz0 := HM.out.mc.c0
  have hzf := HM.out.mc.fg 0
  refine (lock_free muLib ⟨g, 0, none⟩ _ ?_ ?_).mono ?_
  · exact (B0.out.cell (p := ⟨g, 0, none⟩) (lt_hp HM.out.1)).trans hz0
  · exact (B0.out.frozen (p := ⟨g, 0, none⟩) (lt_hp HM.out.1)).trans hzf
  clear hz0 hzf
  rintro e w1 ⟨rfl, hw1⟩
  have R1 : Hid (w1.heap[w.heap.size]? = some (.cells #[.int .i64 0, .int .i64 0, .int .i64 0, .int .i64 0, .bool false] 74 (0, 0))) := by
    show _ = _
    rw [hw1]; exact blk_oth (heap_alloc_new _ _) (by have := lt_hp HM.out.1; omega) 0 _
  have C1 : Hid (Ch g b w w1) := by
    show Ch _ _ _ _
    rw [hw1]; exact ((Ch.refl g b w).al _).st (.inl rfl) 0 _
  have N1 : Hid (MB 1 g b l s k c o n d w1) := by
    show MB _ _ _ _ _ _ _ _ _ _ _
    rw [hw1]; exact ⟨blk_set (HM.out.keep B0.out).1 0 _, blk_oth (HM.out.keep B0.out).2 HM.out.ne.symm 0 _⟩
  have NE := Lib.hid HM.out.ne
  have LG := Lib.hid (lt_hp HM.out.1)
  have LB := Lib.hid (lt_hp HM.out.2)
  have AF := Lib.hid (bad_of g b w.heap.size l s k c o n d w w1 N1.out R1.out (by have := LG.out; omega) (by have := LB.out; omega) (Nat.le_refl _) C1.out)
  clear hw1 B0
  have r0 := cell_of_row w1 _ 0 _ 74 _ R1.out
  have r1 := cell_of_row w1 _ 1 _ 74 _ R1.out
  have r2 := cell_of_row w1 _ 2 _ 74 _ R1.out
  have r3 := cell_of_row w1 _ 3 _ 74 _ R1.out
  have r4 := cell_of_row w1 _ 4 _ 74 _ R1.out
  have fr : ∀ j, w1.frozen? ⟨w.heap.size, j, none⟩ = false := fun j => by have := R1.out; simp [World.frozen?, this]
  have ne1 : w.heap.size ≠ g := by have := LG.out; omega
  have ne2 : w.heap.size ≠ b := by have := LB.out; omega
  simp at r0 r1 r2 r3 r4
  generalize w.heap.size = r at *
  have Hh := Lib.hid (has_no 1 g b l s k c o n d i hi w1 N1.out)
  clear hi
  go_wp2_with fail
  refine Hh.out.mono ?_; rintro e w2 ⟨rfl, rfl⟩
  go_wp2_with fail
  clear r0 r1 r2 r3 r4 fr
  refine leaves_cons (f := 42) (args := #[.pointer (some ⟨g, 0, none⟩)]) (by simp) (by simp [go_sem]) ?_
  refine (unlock_deferred muLib ⟨g, 0, none⟩ .returning _ ?_ ?_).mono ?_
  · exact AF.out.c0
  · exact AF.out.f0
  rintro e u' w'' ⟨rfl, rfl, hw⟩
  have q0 := cell_of_row _ r 0 _ 74 _ AF.out.rr
  have q1 := cell_of_row _ r 1 _ 74 _ AF.out.rr
  have q2 := cell_of_row _ r 2 _ 74 _ AF.out.rr
  have q3 := cell_of_row _ r 3 _ 74 _ AF.out.rr
  have q4 := cell_of_row _ r 4 _ 74 _ AF.out.rr
  have P1 := AF.out.mb
  have P2 := AF.out.ch
  rw [← hw] at q0 q1 q2 q3 q4 P1 P2
  simp at q0 q1 q2 q3 q4
  simp [Leaves, settle, results, Try.results44, go_sem, q0, q1, q2, q3, q4]
  exact ⟨P1, P2⟩
set_option maxHeartbeats 1000000 in
theorem step_nil (K i : Int) (F : Value) (w : World) : Calls Try.prog 44 #[.pointer none, .int .i64 K, .int .i64 i, F] w fun e w' => e = .returned (.tuple #[.agg #[.int .i64 0, .int .i64 0, .int .i64 0, .int .i64 0, .bool false], .int .i64 1]) ∧ Below w.heap.size w w' := by
  go_enter Try.func44, Try.ntmps44
  go_wp2
  refine bodyPost_ret (v := .tuple #[.agg #[.int .i64 0, .int .i64 0, .int .i64 0, .int .i64 0, .bool false], .int .i64 1]) (by simp [results, Try.results44, go_sem]) rfl ⟨rfl, ?_⟩
  exact bl_al (Below.refl _ w) _
end Go.Proofs.Ytaihmkflhapjeaa

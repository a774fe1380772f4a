/-
  What gen.Make answers.
-/
import Derived.Test.YtnmolpogmkiikaaGSame
namespace Go.Proofs.Ytnmolpogmkiikaa
open Go.RowKit
set_option linter.unusedVariables false
/-- an answer of Make -/
def MkP (er K n C : Int) (wl vl : List Int) (cl : List (List Int)) (w : World) (e : Ending) (w' : World) : Prop := ∃ (wa va ca : Option Addr) (wc vc cc : Nat),
  e = .returned (.tuple #[.agg #[.int .i64 K, .int .i64 n, .int .i64 C, .slice wa wl.length wc, .slice va vl.length vc, .slice ca cl.length cc], .int .i64 er]) ∧ Ints w' wa wl ∧ Ints w' va vl ∧ Rws w' ca cl ∧ Below w.heap.size w w'
theorem mk_none (er : Int) {w w' : World} (hb : Below w.heap.size w w') : MkP er 0 0 0 [] [] [] w (.returned (.tuple #[.agg #[.int .i64 0, .int .i64 0, .int .i64 0, .slice none 0 0, .slice none 0 0, .slice none 0 0], .int .i64 er])) w' :=
  ⟨none, none, none, 0, 0, 0, rfl, fun j hj => by simp at hj, fun j hj => by simp at hj, fun j hj => by simp at hj, hb⟩
theorem make_kind (K n m s : Int) (h1 : K ≠ 1) (h2 : K ≠ 2) (h3 : K ≠ 3) (w : World) : Calls Try.prog 8 #[.int .i64 K, .int .i64 n, .int .i64 m, .int .u64 s] w (MkP 14 0 0 0 [] [] [] w) := by
  have a1 : (K == 1) = false := by simpa using h1
  have a2 : (K != 1) = true := by simpa using h1
  have a3 : (K != 2) = true := by simpa using h2
  have a4 : (K != 3) = true := by simpa using h3
  have B := Lib.hid (mk_none 14 (bl_al (Below.refl w.heap.size w) (.cells #[.int .i64 0, .int .i64 0, .int .i64 0, .slice none 0 0, .slice none 0 0, .slice none 0 0] 32)))
  clear h1 h2 h3
  go_enter Try.func8, Try.ntmps8
  go_wp2
  exact bodyPost_ret (v := .tuple #[.agg #[.int .i64 0, .int .i64 0, .int .i64 0, .slice none 0 0, .slice none 0 0, .slice none 0 0], .int .i64 14]) (by simp [results, Try.results8, go_sem]) rfl B.out
theorem make_arg1 (n m s : Int) (h : n < 1 ∨ m < 0 ∨ 2147483647 < m) (w : World) : Calls Try.prog 8 #[.int .i64 1, .int .i64 n, .int .i64 m, .int .u64 s] w (MkP 1 0 0 0 [] [] [] w) := by
  have B := Lib.hid (mk_none 1 (bl_al (Below.refl w.heap.size w) (.cells #[.int .i64 0, .int .i64 0, .int .i64 0, .slice none 0 0, .slice none 0 0, .slice none 0 0] 32)))
  by_cases hn : n < 1
  · clear h
    go_enter Try.func8, Try.ntmps8
    go_wp2
    exact bodyPost_ret (v := .tuple #[.agg #[.int .i64 0, .int .i64 0, .int .i64 0, .slice none 0 0, .slice none 0 0, .slice none 0 0], .int .i64 1]) (by simp [results, Try.results8, go_sem]) rfl B.out
  · have hm : m < 0 ∨ 2147483647 < m := by omega
    have H := Lib.hid (fun W => entry_no m hm W)
    clear h hm
    go_enter Try.func8, Try.ntmps8
    go_wp2_with fail
    refine (H.out _).mono ?_; rintro e w1 ⟨rfl, rfl⟩
    go_wp2
    exact bodyPost_ret (v := .tuple #[.agg #[.int .i64 0, .int .i64 0, .int .i64 0, .slice none 0 0, .slice none 0 0, .slice none 0 0], .int .i64 1]) (by simp [results, Try.results8, go_sem]) rfl B.out
theorem make_big1 (n m s : Int) (h : 64 < n) (h0 : 0 ≤ m) (h1 : m ≤ 2147483647) (w : World) : Calls Try.prog 8 #[.int .i64 1, .int .i64 n, .int .i64 m, .int .u64 s] w (MkP 5 0 0 0 [] [] [] w) := by
  have B := Lib.hid (mk_none 5 (bl_al (Below.refl w.heap.size w) (.cells #[.int .i64 0, .int .i64 0, .int .i64 0, .slice none 0 0, .slice none 0 0, .slice none 0 0] 32)))
  have H := Lib.hid (fun W => entry_yes m h0 h1 W)
  have hn : ¬ n < 1 := by omega
  go_enter Try.func8, Try.ntmps8
  go_wp2_with fail
  refine (H.out _).mono ?_; rintro e w1 ⟨rfl, rfl⟩
  go_wp2
  exact bodyPost_ret (v := .tuple #[.agg #[.int .i64 0, .int .i64 0, .int .i64 0, .slice none 0 0, .slice none 0 0, .slice none 0 0], .int .i64 5]) (by simp [results, Try.results8, go_sem]) rfl B.out
theorem make_arg2 (n m s : Int) (h : n < 1 ∨ m < 0 ∨ 2147483647 < m) (w : World) : Calls Try.prog 8 #[.int .i64 2, .int .i64 n, .int .i64 m, .int .u64 s] w (MkP 1 0 0 0 [] [] [] w) := by
  have B := Lib.hid (mk_none 1 (bl_al (Below.refl w.heap.size w) (.cells #[.int .i64 0, .int .i64 0, .int .i64 0, .slice none 0 0, .slice none 0 0, .slice none 0 0] 32)))
  by_cases hn : n < 1
  · clear h
    go_enter Try.func8, Try.ntmps8
    go_wp2
    exact bodyPost_ret (v := .tuple #[.agg #[.int .i64 0, .int .i64 0, .int .i64 0, .slice none 0 0, .slice none 0 0, .slice none 0 0], .int .i64 1]) (by simp [results, Try.results8, go_sem]) rfl B.out
  · have hm : m < 0 ∨ 2147483647 < m := by omega
    have H := Lib.hid (fun W => entry_no m hm W)
    clear h hm
    go_enter Try.func8, Try.ntmps8
    go_wp2_with fail
    refine (H.out _).mono ?_; rintro e w1 ⟨rfl, rfl⟩
    go_wp2
    exact bodyPost_ret (v := .tuple #[.agg #[.int .i64 0, .int .i64 0, .int .i64 0, .slice none 0 0, .slice none 0 0, .slice none 0 0], .int .i64 1]) (by simp [results, Try.results8, go_sem]) rfl B.out
theorem make_big2 (n m s : Int) (h : 24 < n) (h0 : 0 ≤ m) (h1 : m ≤ 2147483647) (w : World) : Calls Try.prog 8 #[.int .i64 2, .int .i64 n, .int .i64 m, .int .u64 s] w (MkP 5 0 0 0 [] [] [] w) := by
  have B := Lib.hid (mk_none 5 (bl_al (Below.refl w.heap.size w) (.cells #[.int .i64 0, .int .i64 0, .int .i64 0, .slice none 0 0, .slice none 0 0, .slice none 0 0] 32)))
  have H := Lib.hid (fun W => entry_yes m h0 h1 W)
  have hn : ¬ n < 1 := by omega
  go_enter Try.func8, Try.ntmps8
  go_wp2_with fail
  refine (H.out _).mono ?_; rintro e w1 ⟨rfl, rfl⟩
  go_wp2
  exact bodyPost_ret (v := .tuple #[.agg #[.int .i64 0, .int .i64 0, .int .i64 0, .slice none 0 0, .slice none 0 0, .slice none 0 0], .int .i64 5]) (by simp [results, Try.results8, go_sem]) rfl B.out
theorem make_arg3 (n m s : Int) (h : n < 1 ∨ m < 0 ∨ 2147483647 < m) (w : World) : Calls Try.prog 8 #[.int .i64 3, .int .i64 n, .int .i64 m, .int .u64 s] w (MkP 1 0 0 0 [] [] [] w) := by
  have B := Lib.hid (mk_none 1 (bl_al (Below.refl w.heap.size w) (.cells #[.int .i64 0, .int .i64 0, .int .i64 0, .slice none 0 0, .slice none 0 0, .slice none 0 0] 32)))
  by_cases hn : n < 1
  · clear h
    go_enter Try.func8, Try.ntmps8
    go_wp2
    exact bodyPost_ret (v := .tuple #[.agg #[.int .i64 0, .int .i64 0, .int .i64 0, .slice none 0 0, .slice none 0 0, .slice none 0 0], .int .i64 1]) (by simp [results, Try.results8, go_sem]) rfl B.out
  · have hm : m < 0 ∨ 2147483647 < m := by omega
    have H := Lib.hid (fun W => entry_no m hm W)
    clear h hm
    go_enter Try.func8, Try.ntmps8
    go_wp2_with fail
    refine (H.out _).mono ?_; rintro e w1 ⟨rfl, rfl⟩
    go_wp2
    exact bodyPost_ret (v := .tuple #[.agg #[.int .i64 0, .int .i64 0, .int .i64 0, .slice none 0 0, .slice none 0 0, .slice none 0 0], .int .i64 1]) (by simp [results, Try.results8, go_sem]) rfl B.out
theorem make_big3 (n m s : Int) (h : 24 < n) (h0 : 0 ≤ m) (h1 : m ≤ 2147483647) (w : World) : Calls Try.prog 8 #[.int .i64 3, .int .i64 n, .int .i64 m, .int .u64 s] w (MkP 5 0 0 0 [] [] [] w) := by
  have B := Lib.hid (mk_none 5 (bl_al (Below.refl w.heap.size w) (.cells #[.int .i64 0, .int .i64 0, .int .i64 0, .slice none 0 0, .slice none 0 0, .slice none 0 0] 32)))
  have H := Lib.hid (fun W => entry_yes m h0 h1 W)
  have hn : ¬ n < 1 := by omega
  go_enter Try.func8, Try.ntmps8
  go_wp2_with fail
  refine (H.out _).mono ?_; rintro e w1 ⟨rfl, rfl⟩
  go_wp2
  exact bodyPost_ret (v := .tuple #[.agg #[.int .i64 0, .int .i64 0, .int .i64 0, .slice none 0 0, .slice none 0 0, .slice none 0 0], .int .i64 5]) (by simp [results, Try.results8, go_sem]) rfl B.out
theorem ints_row {W : World} {B n g c : Nat} {l : List Int} (hl : l.length = n) (h : W.ownsRow B 3 1 (.slice (some ⟨g, 0, none⟩) n c) n (enc l)) : Ints W (some ⟨g, 0, none⟩) l := fun j hj => by
  refine ⟨g, 0, rfl, (h.lt g rfl).2, ?_⟩
  rw [Nat.zero_add, h.cellAt j (by omega)]
  unfold enc
  rw [List.getElem?_map, List.getElem?_eq_getElem hj]; rfl
theorem below_of {w X W : World} {g : Nat} (hb : Below w.heap.size w X) (h : X.grownBy W (some g)) (hg : w.heap.size ≤ g) : Below w.heap.size w W :=
  ⟨h.os.trans hb.os, h.tape.trans hb.tape, h.output.trans hb.output, Nat.le_trans hb.size h.size, fun i hi => (h.block i (Nat.lt_of_lt_of_le hi hb.size) (fun e => by injection e with e; omega)).trans (hb.block i hi)⟩
set_option maxHeartbeats 1000000 in
theorem make_knap (nn : Nat) (n1 : 1 ≤ nn) (n2 : nn ≤ 64) (m s : Int) (h0 : 0 ≤ m) (h1 : m ≤ 2147483647) (w : World) : Calls Try.prog 8 #[.int .i64 1, .int .i64 nn, .int .i64 m, .int .u64 s] w (MkP 0 1 nn (capOf m s nn) (WL m s nn) (VL m s nn) [] w) := by
  have H := Lib.hid (fun W => entry_yes m h0 h1 W)
  have hn : ¬ (nn : Int) < 1 := by omega
  have hd : ((w.alloc (.cells #[.int .i64 0, .int .i64 0, .int .i64 0, .slice none 0 0, .slice none 0 0, .slice none 0 0] 32)).alloc (.cells #[.int .u64 s, .int .i64 m] 42)).heap[w.heap.size + 1]? = some (.cells #[.int .u64 (sd s 0), .int .i64 m] 42 (0, 0)) := by rw [sd_zero]; exact heap_alloc2_new w _ _
  have hz : ((w.alloc (.cells #[.int .i64 0, .int .i64 0, .int .i64 0, .slice none 0 0, .slice none 0 0, .slice none 0 0] 32)).alloc (.cells #[.int .u64 s, .int .i64 m] 42)).heap[w.heap.size]? = some (.cells #[.int .i64 0, .int .i64 0, .int .i64 0, .slice none 0 0, .slice none 0 0, .slice none 0 0] 32 (0, 0)) := heap_alloc2_old w _ _
  have hsz : ((w.alloc (.cells #[.int .i64 0, .int .i64 0, .int .i64 0, .slice none 0 0, .slice none 0 0, .slice none 0 0] 32)).alloc (.cells #[.int .u64 s, .int .i64 m] 42)).heap.size = w.heap.size + 1 + 1 := by simp
  have hb : Below w.heap.size w ((w.alloc (.cells #[.int .i64 0, .int .i64 0, .int .i64 0, .slice none 0 0, .slice none 0 0, .slice none 0 0] 32)).alloc (.cells #[.int .u64 s, .int .i64 m] 42)) := bl_al (bl_al (Below.refl w.heap.size w) _) _
  generalize hX : ((w.alloc (.cells #[.int .i64 0, .int .i64 0, .int .i64 0, .slice none 0 0, .slice none 0 0, .slice none 0 0] 32)).alloc (.cells #[.int .u64 s, .int .i64 m] 42)) = X at *
  have KK := Lib.hid (ksack_any m s h0 h1 nn n1 n2 (w.heap.size + 1) X hd)
  have HX := Lib.hid hX
  have HZ := Lib.hid hz
  have HB := Lib.hid hb
  clear hd hz hb hX h0 h1
  go_enter Try.func8, Try.ntmps8
  go_wp2_with fail
  refine (H.out _).mono ?_; rintro e w1 ⟨rfl, rfl⟩
  go_wp2_with fail
  rw [HX.out]
  refine KK.out.mono ?_; rintro e w1 ⟨gw, cw, gv, cv, rfl, rw, rv, gone⟩
  have q := (gone.block w.heap.size (by omega) (fun e => by injection e with e; omega)).trans HZ.out
  have bw := Lib.hid (below_of HB.out gone (by omega))
  have RW := Lib.hid rw
  have RV := Lib.hid rv
  clear rw rv gone KK H HX HZ HB
  have FIN : Hid (MkP 0 1 nn (capOf m s nn) (WL m s nn) (VL m s nn) [] w (.returned (.tuple #[.agg #[.int .i64 1, .int .i64 nn, .int .i64 (capOf m s nn), .slice (some ⟨gw, 0, none⟩) nn cw, .slice (some ⟨gv, 0, none⟩) nn cv, .slice none 0 0], .int .i64 0])) ((((((w1.setCell ⟨w.heap.size, 0, none⟩ (.int .i64 1)).setCell ⟨w.heap.size, 1, none⟩ (.int .i64 nn)).setCell ⟨w.heap.size, 2, none⟩ (.int .i64 (capOf m s nn))).setCell ⟨w.heap.size, 3, none⟩ (.slice (some ⟨gw, 0, none⟩) nn cw)).setCell ⟨w.heap.size, 4, none⟩ (.slice (some ⟨gv, 0, none⟩) nn cv)).setCell ⟨w.heap.size, 5, none⟩ (.slice none 0 0))) := by
    have hs : ∀ (j : Nat) (v : Value) (Y : World), Below w.heap.size w Y → Below w.heap.size w (Y.setCell ⟨w.heap.size, j, none⟩ v) := fun j v Y h => h.setCell (p := ⟨w.heap.size, j, none⟩) (Nat.le_refl _) v
    have hr : ∀ (j : Nat) (v : Value) (Y : World) (g c : Nat) (xs : List Value), Y.ownsRow X.heap.size 3 1 (.slice (some ⟨g, 0, none⟩) nn c) nn xs → (Y.setCell ⟨w.heap.size, j, none⟩ v).ownsRow X.heap.size 3 1 (.slice (some ⟨g, 0, none⟩) nn c) nn xs := fun j v Y g c xs h => Go.RowKit.ownsRow_setCell_below h (by show w.heap.size < X.heap.size; omega) v
    refine ⟨some ⟨gw, 0, none⟩, some ⟨gv, 0, none⟩, none, cw, cv, 0, by rw [WL_len, VL_len]; rfl, ints_row (WL_len _ _ _) (hr _ _ _ _ _ _ (hr _ _ _ _ _ _ (hr _ _ _ _ _ _ (hr _ _ _ _ _ _ (hr _ _ _ _ _ _ (hr _ _ _ _ _ _ RW.out)))))), ints_row (VL_len _ _ _) (hr _ _ _ _ _ _ (hr _ _ _ _ _ _ (hr _ _ _ _ _ _ (hr _ _ _ _ _ _ (hr _ _ _ _ _ _ (hr _ _ _ _ _ _ RV.out)))))), fun j hj => by simp at hj, hs _ _ _ (hs _ _ _ (hs _ _ _ (hs _ _ _ (hs _ _ _ (hs _ _ _ bw.out)))))⟩
  clear bw RW RV
  obtain ⟨y0, y1, y2, y3, y4, y5⟩ := box6 q
  have ff : ∀ j, w1.frozen? ⟨w.heap.size, j, none⟩ = false := fun j => frozen_of_row _ _ _ _ _ q
  have f0 := ff 0
  have f1 := ff 1
  have f2 := ff 2
  have f3 := ff 3
  have f4 := ff 4
  have f5 := ff 5
  have q6 := six q (.int .i64 1) (.int .i64 nn) (.int .i64 (capOf m s nn)) (.slice (some ⟨gw, 0, none⟩) nn cw) (.slice (some ⟨gv, 0, none⟩) nn cv) (.slice none 0 0)
  have HR := Lib.hid (box6 q6)
  clear ff q q6
  obtain ⟨r0, r1, r2, r3, r4, r5⟩ := HR.out
  clear HR
  go_wp2
  exact bodyPost_ret (v := .tuple #[.agg #[.int .i64 1, .int .i64 nn, .int .i64 (capOf m s nn), .slice (some ⟨gw, 0, none⟩) nn cw, .slice (some ⟨gv, 0, none⟩) nn cv, .slice none 0 0], .int .i64 0]) (by simp [results, Try.results8, go_sem, r0, r1, r2, r3, r4, r5]) rfl FIN.out
/-- the rows of a problem that is made -/
def EL (t : Bool) (m s : Int) (n a : Nat) : List Int := (List.range n).map fun b => ent t m s n a b
def CL (t : Bool) (m s : Int) (n : Nat) : List (List Int) := (List.range n).map fun a => EL t m s n a
theorem CL_len (t : Bool) (m s : Int) (n : Nat) : (CL t m s n).length = n := by simp [CL]
theorem EL_len (t : Bool) (m s : Int) (n a : Nat) : (EL t m s n a).length = n := by simp [EL]
theorem CL_at (t : Bool) (m s : Int) (n a : Nat) (h : a < n) : (CL t m s n)[a]?.getD [] = EL t m s n a := by simp [CL, h]
theorem enc_EL (t : Bool) (m s : Int) (n a : Nat) : rl t m s n a n = enc (EL t m s n a) := by
  unfold rl enc EL
  rw [List.map_map]
  apply List.map_congr_left
  intro b hb
  have : b < n := by simpa using hb
  simp [this]
theorem rws_rows {W : World} {B n gc : Nat} {gs : Nat → Nat} {t : Bool} {m s : Int} (hn : n ≤ 1000) (h1 : W.ownsRow B 29 1 (.slice (some ⟨gc, 0, none⟩) n n) n (tl gs n n)) (h2 : ∀ j, j < n → W.ownsRow B 3 1 (.slice (some ⟨gs j, 0, none⟩) n n) n (rl t m s n j n)) : Rws W (some ⟨gc, 0, none⟩) (CL t m s n) := fun j hj => by
  have hj' : j < n := by rw [CL_len] at hj; exact hj
  refine ⟨gc, 0, some ⟨gs j, 0, none⟩, n, rfl, (h1.lt gc rfl).2, ?_, ?_, ?_⟩
  · rw [Nat.zero_add, h1.cellAt j (by omega), tl_at _ _ _ _ hj', if_pos hj', CL_at _ _ _ _ _ hj', EL_len]
  · rw [CL_at _ _ _ _ _ hj']
    have := h2 j hj'
    rw [enc_EL] at this
    exact ints_row (EL_len _ _ _ _ _) this
  · rw [CL_at _ _ _ _ _ hj', EL_len]; exact hn
set_option maxHeartbeats 1000000 in
theorem make_two (nn : Nat) (n1 : 1 ≤ nn) (n2 : nn ≤ 24) (m s : Int) (h0 : 0 ≤ m) (h1 : m ≤ 2147483647) (w : World) : Calls Try.prog 8 #[.int .i64 2, .int .i64 nn, .int .i64 m, .int .u64 s] w (MkP 0 2 nn 0 [] [] (CL false m s nn) w) := by
  have H := Lib.hid (fun W => entry_yes m h0 h1 W)
  have hn : ¬ (nn : Int) < 1 := by omega
  have hd : ((w.alloc (.cells #[.int .i64 0, .int .i64 0, .int .i64 0, .slice none 0 0, .slice none 0 0, .slice none 0 0] 32)).alloc (.cells #[.int .u64 s, .int .i64 m] 42)).heap[w.heap.size + 1]? = some (.cells #[.int .u64 (sd s 0), .int .i64 m] 42 (0, 0)) := by rw [sd_zero]; exact heap_alloc2_new w _ _
  have hz : ((w.alloc (.cells #[.int .i64 0, .int .i64 0, .int .i64 0, .slice none 0 0, .slice none 0 0, .slice none 0 0] 32)).alloc (.cells #[.int .u64 s, .int .i64 m] 42)).heap[w.heap.size]? = some (.cells #[.int .i64 0, .int .i64 0, .int .i64 0, .slice none 0 0, .slice none 0 0, .slice none 0 0] 32 (0, 0)) := heap_alloc2_old w _ _
  have hsz : ((w.alloc (.cells #[.int .i64 0, .int .i64 0, .int .i64 0, .slice none 0 0, .slice none 0 0, .slice none 0 0] 32)).alloc (.cells #[.int .u64 s, .int .i64 m] 42)).heap.size = w.heap.size + 1 + 1 := by simp
  have hb : Below w.heap.size w ((w.alloc (.cells #[.int .i64 0, .int .i64 0, .int .i64 0, .slice none 0 0, .slice none 0 0, .slice none 0 0] 32)).alloc (.cells #[.int .u64 s, .int .i64 m] 42)) := bl_al (bl_al (Below.refl w.heap.size w) _) _
  generalize hX : ((w.alloc (.cells #[.int .i64 0, .int .i64 0, .int .i64 0, .slice none 0 0, .slice none 0 0, .slice none 0 0] 32)).alloc (.cells #[.int .u64 s, .int .i64 m] 42)) = X at *
  have KK := Lib.hid (costs_two m s h0 h1 nn n1 n2 (w.heap.size + 1) X hd)
  have HX := Lib.hid hX
  have HZ := Lib.hid hz
  have HB := Lib.hid hb
  clear hd hz hb hX h0 h1
  go_enter Try.func8, Try.ntmps8
  go_wp2_with fail
  refine (H.out _).mono ?_; rintro e w1 ⟨rfl, rfl⟩
  go_wp2_with fail
  rw [HX.out]
  refine KK.out.mono ?_; rintro e w1 ⟨gc, gs, rfl, rt, rr, gone⟩
  have q := (gone.block w.heap.size (by omega) (fun e => by injection e with e; omega)).trans HZ.out
  have bw := Lib.hid (below_of HB.out gone (by omega))
  have RT := Lib.hid rt
  have RR := Lib.hid rr
  clear rt rr gone KK H HX HZ HB
  have FIN : Hid (MkP 0 2 nn 0 [] [] (CL false m s nn) w (.returned (.tuple #[.agg #[.int .i64 2, .int .i64 nn, .int .i64 0, .slice none 0 0, .slice none 0 0, .slice (some ⟨gc, 0, none⟩) nn nn], .int .i64 0])) ((((((w1.setCell ⟨w.heap.size, 0, none⟩ (.int .i64 2)).setCell ⟨w.heap.size, 1, none⟩ (.int .i64 nn)).setCell ⟨w.heap.size, 2, none⟩ (.int .i64 0)).setCell ⟨w.heap.size, 3, none⟩ (.slice none 0 0)).setCell ⟨w.heap.size, 4, none⟩ (.slice none 0 0)).setCell ⟨w.heap.size, 5, none⟩ (.slice (some ⟨gc, 0, none⟩) nn nn))) := by
    have hs : ∀ (j : Nat) (v : Value) (Y : World), Below w.heap.size w Y → Below w.heap.size w (Y.setCell ⟨w.heap.size, j, none⟩ v) := fun j v Y h => h.setCell (p := ⟨w.heap.size, j, none⟩) (Nat.le_refl _) v
    have hr : ∀ (j : Nat) (v : Value) (Y : World) (ee : TypeId) (g c : Nat) (xs : List Value), Y.ownsRow X.heap.size ee 1 (.slice (some ⟨g, 0, none⟩) nn c) nn xs → (Y.setCell ⟨w.heap.size, j, none⟩ v).ownsRow X.heap.size ee 1 (.slice (some ⟨g, 0, none⟩) nn c) nn xs := fun j v Y ee g c xs h => Go.RowKit.ownsRow_setCell_below h (by show w.heap.size < X.heap.size; omega) v
    refine ⟨none, none, some ⟨gc, 0, none⟩, 0, 0, nn, by rw [CL_len]; rfl, fun j hj => by simp at hj, fun j hj => by simp at hj, rws_rows (by omega) (hr _ _ _ _ _ _ _ (hr _ _ _ _ _ _ _ (hr _ _ _ _ _ _ _ (hr _ _ _ _ _ _ _ (hr _ _ _ _ _ _ _ (hr _ _ _ _ _ _ _ RT.out)))))) (fun j hj => hr _ _ _ _ _ _ _ (hr _ _ _ _ _ _ _ (hr _ _ _ _ _ _ _ (hr _ _ _ _ _ _ _ (hr _ _ _ _ _ _ _ (hr _ _ _ _ _ _ _ (RR.out j hj))))))), hs _ _ _ (hs _ _ _ (hs _ _ _ (hs _ _ _ (hs _ _ _ (hs _ _ _ bw.out)))))⟩
  clear bw RT RR
  obtain ⟨y0, y1, y2, y3, y4, y5⟩ := box6 q
  have ff : ∀ j, w1.frozen? ⟨w.heap.size, j, none⟩ = false := fun j => frozen_of_row _ _ _ _ _ q
  have f0 := ff 0
  have f1 := ff 1
  have f2 := ff 2
  have f3 := ff 3
  have f4 := ff 4
  have f5 := ff 5
  have q6 := six q (.int .i64 2) (.int .i64 nn) (.int .i64 0) (.slice none 0 0) (.slice none 0 0) (.slice (some ⟨gc, 0, none⟩) nn nn)
  have HR := Lib.hid (box6 q6)
  clear ff q q6
  obtain ⟨r0, r1, r2, r3, r4, r5⟩ := HR.out
  clear HR
  go_wp2
  exact bodyPost_ret (v := .tuple #[.agg #[.int .i64 2, .int .i64 nn, .int .i64 0, .slice none 0 0, .slice none 0 0, .slice (some ⟨gc, 0, none⟩) nn nn], .int .i64 0]) (by simp [results, Try.results8, go_sem, r0, r1, r2, r3, r4, r5]) rfl FIN.out
set_option maxHeartbeats 1000000 in
theorem make_three (nn : Nat) (n1 : 1 ≤ nn) (n2 : nn ≤ 24) (m s : Int) (h0 : 0 ≤ m) (h1 : m ≤ 2147483647) (w : World) : Calls Try.prog 8 #[.int .i64 3, .int .i64 nn, .int .i64 m, .int .u64 s] w (MkP 0 3 nn 0 [] [] (CL true m s nn) w) := by
  have H := Lib.hid (fun W => entry_yes m h0 h1 W)
  have hn : ¬ (nn : Int) < 1 := by omega
  have hd : ((w.alloc (.cells #[.int .i64 0, .int .i64 0, .int .i64 0, .slice none 0 0, .slice none 0 0, .slice none 0 0] 32)).alloc (.cells #[.int .u64 s, .int .i64 m] 42)).heap[w.heap.size + 1]? = some (.cells #[.int .u64 (sd s 0), .int .i64 m] 42 (0, 0)) := by rw [sd_zero]; exact heap_alloc2_new w _ _
  have hz : ((w.alloc (.cells #[.int .i64 0, .int .i64 0, .int .i64 0, .slice none 0 0, .slice none 0 0, .slice none 0 0] 32)).alloc (.cells #[.int .u64 s, .int .i64 m] 42)).heap[w.heap.size]? = some (.cells #[.int .i64 0, .int .i64 0, .int .i64 0, .slice none 0 0, .slice none 0 0, .slice none 0 0] 32 (0, 0)) := heap_alloc2_old w _ _
  have hsz : ((w.alloc (.cells #[.int .i64 0, .int .i64 0, .int .i64 0, .slice none 0 0, .slice none 0 0, .slice none 0 0] 32)).alloc (.cells #[.int .u64 s, .int .i64 m] 42)).heap.size = w.heap.size + 1 + 1 := by simp
  have hb : Below w.heap.size w ((w.alloc (.cells #[.int .i64 0, .int .i64 0, .int .i64 0, .slice none 0 0, .slice none 0 0, .slice none 0 0] 32)).alloc (.cells #[.int .u64 s, .int .i64 m] 42)) := bl_al (bl_al (Below.refl w.heap.size w) _) _
  generalize hX : ((w.alloc (.cells #[.int .i64 0, .int .i64 0, .int .i64 0, .slice none 0 0, .slice none 0 0, .slice none 0 0] 32)).alloc (.cells #[.int .u64 s, .int .i64 m] 42)) = X at *
  have KK := Lib.hid (costs_three m s h0 h1 nn n1 n2 (w.heap.size + 1) X hd)
  have HX := Lib.hid hX
  have HZ := Lib.hid hz
  have HB := Lib.hid hb
  clear hd hz hb hX h0 h1
  go_enter Try.func8, Try.ntmps8
  go_wp2_with fail
  refine (H.out _).mono ?_; rintro e w1 ⟨rfl, rfl⟩
  go_wp2_with fail
  rw [HX.out]
  refine KK.out.mono ?_; rintro e w1 ⟨gc, gs, rfl, rt, rr, gone⟩
  have q := (gone.block w.heap.size (by omega) (fun e => by injection e with e; omega)).trans HZ.out
  have bw := Lib.hid (below_of HB.out gone (by omega))
  have RT := Lib.hid rt
  have RR := Lib.hid rr
  clear rt rr gone KK H HX HZ HB
  have FIN : Hid (MkP 0 3 nn 0 [] [] (CL true m s nn) w (.returned (.tuple #[.agg #[.int .i64 3, .int .i64 nn, .int .i64 0, .slice none 0 0, .slice none 0 0, .slice (some ⟨gc, 0, none⟩) nn nn], .int .i64 0])) ((((((w1.setCell ⟨w.heap.size, 0, none⟩ (.int .i64 3)).setCell ⟨w.heap.size, 1, none⟩ (.int .i64 nn)).setCell ⟨w.heap.size, 2, none⟩ (.int .i64 0)).setCell ⟨w.heap.size, 3, none⟩ (.slice none 0 0)).setCell ⟨w.heap.size, 4, none⟩ (.slice none 0 0)).setCell ⟨w.heap.size, 5, none⟩ (.slice (some ⟨gc, 0, none⟩) nn nn))) := by
    have hs : ∀ (j : Nat) (v : Value) (Y : World), Below w.heap.size w Y → Below w.heap.size w (Y.setCell ⟨w.heap.size, j, none⟩ v) := fun j v Y h => h.setCell (p := ⟨w.heap.size, j, none⟩) (Nat.le_refl _) v
    have hr : ∀ (j : Nat) (v : Value) (Y : World) (ee : TypeId) (g c : Nat) (xs : List Value), Y.ownsRow X.heap.size ee 1 (.slice (some ⟨g, 0, none⟩) nn c) nn xs → (Y.setCell ⟨w.heap.size, j, none⟩ v).ownsRow X.heap.size ee 1 (.slice (some ⟨g, 0, none⟩) nn c) nn xs := fun j v Y ee g c xs h => Go.RowKit.ownsRow_setCell_below h (by show w.heap.size < X.heap.size; omega) v
    refine ⟨none, none, some ⟨gc, 0, none⟩, 0, 0, nn, by rw [CL_len]; rfl, fun j hj => by simp at hj, fun j hj => by simp at hj, rws_rows (by omega) (hr _ _ _ _ _ _ _ (hr _ _ _ _ _ _ _ (hr _ _ _ _ _ _ _ (hr _ _ _ _ _ _ _ (hr _ _ _ _ _ _ _ (hr _ _ _ _ _ _ _ RT.out)))))) (fun j hj => hr _ _ _ _ _ _ _ (hr _ _ _ _ _ _ _ (hr _ _ _ _ _ _ _ (hr _ _ _ _ _ _ _ (hr _ _ _ _ _ _ _ (hr _ _ _ _ _ _ _ (RR.out j hj))))))), hs _ _ _ (hs _ _ _ (hs _ _ _ (hs _ _ _ (hs _ _ _ (hs _ _ _ bw.out)))))⟩
  clear bw RT RR
  obtain ⟨y0, y1, y2, y3, y4, y5⟩ := box6 q
  have ff : ∀ j, w1.frozen? ⟨w.heap.size, j, none⟩ = false := fun j => frozen_of_row _ _ _ _ _ q
  have f0 := ff 0
  have f1 := ff 1
  have f2 := ff 2
  have f3 := ff 3
  have f4 := ff 4
  have f5 := ff 5
  have q6 := six q (.int .i64 3) (.int .i64 nn) (.int .i64 0) (.slice none 0 0) (.slice none 0 0) (.slice (some ⟨gc, 0, none⟩) nn nn)
  have HR := Lib.hid (box6 q6)
  clear ff q q6
  obtain ⟨r0, r1, r2, r3, r4, r5⟩ := HR.out
  clear HR
  go_wp2
  exact bodyPost_ret (v := .tuple #[.agg #[.int .i64 3, .int .i64 nn, .int .i64 0, .slice none 0 0, .slice none 0 0, .slice (some ⟨gc, 0, none⟩) nn nn], .int .i64 0]) (by simp [results, Try.results8, go_sem, r0, r1, r2, r3, r4, r5]) rfl FIN.out
end Go.Proofs.Ytnmolpogmkiikaa

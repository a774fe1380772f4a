/-
  The walk of kurganlaw02.SetGoes.
-/
import Derived.Test.YtnenpgndghdheaaDoorGoesE
import Derived.Test.YtnenpgndghdheaaDoorNth
import Derived.Test.YtnenpgndghdheaaDoorROf
namespace Go.Proofs.YtnenpgndghdheaaDoor
open Go.RowKit Go.Shelf
set_option linter.unusedVariables false
attribute [local go_sem] Oper.semAt_some
theorem ownsRow_up {B : Nat} {e : TypeId} {k : Nat} {v : Value} {n : Nat} {xs : List Value} {w w' : World} (h : w.ownsRow B e k v n xs) (hb : Below w.heap.size w w') : w'.ownsRow B e k v n xs := by
  refine ⟨h.1, ?_⟩
  rcases h.2 with hn | ⟨g, cap, cur, hv, hg, hh, r⟩
  · exact Or.inl hn
  · exact Or.inr ⟨g, cap, cur, hv, hg, (hb.block _ (lt_hp hh)).trans hh, r⟩
theorem T64.keep_but {X W : World} {g : Nat} (h : T64 X) (hX : X.grownBy W (some g)) (hg : 0 < g) : T64 W :=
  ⟨Nat.lt_of_lt_of_le h.1 hX.size, fun j hj => World.grownBy.cell hX (h.2 j hj) (by show some 0 ≠ some g; intro e; injection e with e; omega)⟩
/-- what lay there lies as it lay, but for one box -/
theorem ownFrom_but {β : Type} {X : World} {g B : Nat} (hB : X.heap.size ≤ B) : OwnFrom B (fun (_ : β) W => X.grownBy W (some g)) := fun s W W' row hs hg hr =>
  ⟨hg.os.trans hs.os, hg.tape.trans hs.tape, hg.output.trans hs.output, Nat.le_trans hs.size hg.size, fun i hi hne => (hg.block i (Nat.lt_of_lt_of_le hi hs.size) (fun e => by have := (hr i e.symm).1; omega)).trans (hs.block i hi hne)⟩
theorem app_step {X W w1 : World} {B : Nat} {v v' : Value} {k m : Nat} {xs ys : List Value} {tmp : Obj} (hv : Boxed W B 32 v) (hrow : W.ownsRow X.heap.size 3 1 v k xs) (hX : X.grownBy W (some B)) (hBlt : B < X.heap.size)
    (hown' : w1.ownsRow X.heap.size 3 1 v' m ys) (hgrow : (W.alloc tmp).grownBy w1 v.ownBlock) :
    Boxed w1 B 32 v ∧ Boxed (w1.setCell ⟨B, 0, none⟩ v') B 32 v' ∧ (w1.setCell ⟨B, 0, none⟩ v').ownsRow X.heap.size 3 1 v' m ys ∧ KeepsOthers W (w1.setCell ⟨B, 0, none⟩ v') ∧ Below B W (w1.setCell ⟨B, 0, none⟩ v') ∧ X.grownBy (w1.setCell ⟨B, 0, none⟩ v') (some B) := by
  have hle : B ≤ X.heap.size := Nat.le_of_lt hBlt
  obtain ⟨a1, a2, a3, a4, a5⟩ := hv.appended (n₀ := B) (by decide) (Go.Joins.ownsRow_le hrow hle) (Nat.le_trans hle hX.size) (Nat.le_refl _) (Go.Joins.ownsRow_le hown' hle) hgrow
  have hlt := hrow.lt
  refine ⟨a1, a2, hown'.kept (grownBy_setCell' w1 B v') (.inr (a1.not_row (by decide) hown').symm), a4, a5, ?_⟩
  have hs := hgrow.size
  rw [World.size_alloc] at hs
  have hXs := hX.size
  refine ⟨hgrow.os.trans hX.os, hgrow.tape.trans hX.tape, hgrow.output.trans hX.output, by show X.heap.size ≤ (w1.setCell ⟨B, 0, none⟩ v').heap.size; simp [World.setCell]; omega, fun i hi hne => ?_⟩
  have h1 : i ≠ B := fun e => hne (by rw [e])
  rw [Below.heap_setCell w1 ⟨B, 0, none⟩ v' i h1, hgrow.block i (by rw [World.size_alloc]; omega) (fun e => by have := (hlt i e.symm).1; omega), Below.heap_alloc W tmp i (by omega)]
  exact hX.block i hi hne
set_option maxRecDepth 100000 in
set_option maxHeartbeats 4000000 in
theorem setGoes_core (x y : Nat) (hx : x < 18446744073709551616) (hy : y < 18446744073709551616) (lv : Int) (n : Nat) (hn : n < 130) (hlv : (IntKind.u64.wrap lv).tmod 130 = (n : Int)) (w : World) (hT : T64 w) :
    Calls Tryd.prog 4 #[.agg #[.int .u64 x, .int .u64 y], .int .i64 lv] w fun e W' => e = .returned (.bool true) ∧ Below w.heap.size w W' := by
  have hblen := both_len x y
  have hsz := hT.1
  have q0 := new_two w x y
  have B0 := bl_al (Below.refl w.heap.size w) (.cells #[.int .u64 x, .int .u64 y] 24)
  have HS := Lib.hid (sets_any _ (hT.keep B0))
  have HO := Lib.hid (fun W => refOf_any x y hx hy W)
  have HL := Lib.hid (fun W => refList_any (mem x y) (row (mem x y) 128) (fun j hj => by rw [row_at _ _ _ hj]; simp [hj]) W)
  have HB0 := Lib.hid B0
  have HQ0 := Lib.hid q0
  clear q0 B0
  obtain ⟨i0, hi, hz0, hz1, hz2⟩ := info_parts info3
  refine (callsIn_wide (n := 8)).1 ?_
  refine callsIn_of_wp_marks Tryd.func4 rfl trivial ?_ rfl
  simp only [Tryd.ntmps4, List.size_toArray, List.length_cons, List.length_nil, Nat.reduceAdd, Nat.reduceSub, Array.replicate_succ, Array.replicate_zero, List.push_toArray, List.append_toArray, List.nil_append, List.cons_append]
  gi_wp2_with (refine ⟨trivial, ?_⟩; gi_at_call 7; refine (callsIn_wide.2 HS.out).mono ?_; rintro e w1 ⟨rfl, b1⟩; have B1 := Lib.hid (HB0.out.trans (b1.mono HB0.out.size)); have Q1 := Lib.hid ((b1.block _ (lt_hp HQ0.out)).trans HQ0.out); clear b1; obtain ⟨c0, c1⟩ := two_keep (Below.refl _ _) Q1.out)
  gi_wp2_with (refine ⟨trivial, ?_⟩; gi_at_call 6; refine (callsIn_wide.2 (HO.out _)).mono ?_; rintro e w2 ⟨rfl, b2⟩; have B2 := Lib.hid (B1.out.trans (b2.mono B1.out.size)); have Q2 := Lib.hid ((b2.block _ (lt_hp Q1.out)).trans Q1.out); clear b2 c0 c1)
  gi_wp2_with (refine ⟨trivial, ?_⟩; gi_at_call 12; refine (callsIn_wide.2 (HL.out _)).mono ?_; rintro e w3 ⟨vW, rfl, hrW, b3⟩; rw [upTo_both] at hrW; have RW := Lib.hid hrW; have B3 := Lib.hid (B2.out.trans (b3.mono B2.out.size)); have Q3 := Lib.hid ((b3.block _ (lt_hp Q2.out)).trans Q2.out); clear b3 hrW; obtain ⟨c0, c1⟩ := two_keep (Below.refl _ _) Q3.out; have l3 := lt_hp Q3.out; have l4 := Nat.lt_succ_of_lt l3)
  clear B1 B2 Q1 Q2 HS HO HL HB0 HQ0
  gi_wp2_with (refine ⟨trivial, ?_⟩; gi_at_call 13; refine (callsIn_wide.2 (all_any x y _)).mono ?_; rintro e w4 ⟨rfl, rfl⟩)
  -- LOOP1
  have p1 := ((Boxed.new w3 32 (.slice none 0 0)).alloc (.cells #[.slice none 0 0] 32)).alloc (.cells #[.int .u64 x, .int .u64 y] 24)
  have p2 := (Boxed.new (w3.alloc (.cells #[.slice none 0 0] 32)) 32 (.slice none 0 0)).alloc (.cells #[.int .u64 x, .int .u64 y] 24)
  have p3 := new_two ((w3.alloc (.cells #[.slice none 0 0] 32)).alloc (.cells #[.slice none 0 0] 32)) x y
  have p4 := bl_al (bl_al (bl_al (Below.refl w3.heap.size w3) (.cells #[.slice none 0 0] 32)) (.cells #[.slice none 0 0] 32)) (.cells #[.int .u64 x, .int .u64 y] 24)
  have p5 : (((w3.alloc (.cells #[.slice none 0 0] 32)).alloc (.cells #[.slice none 0 0] 32)).alloc (.cells #[.int .u64 x, .int .u64 y] 24)).heap.size = w3.heap.size + 1 + 1 + 1 := by simp
  rw [World.size_alloc] at p2
  rw [World.size_alloc, World.size_alloc] at p3
  clear c0 c1
  generalize (((w3.alloc (.cells #[.slice none 0 0] 32)).alloc (.cells #[.slice none 0 0] 32)).alloc (.cells #[.int .u64 x, .int .u64 y] 24)) = X at *
  obtain ⟨c0, c1⟩ := two_keep (Below.refl _ _) p3
  have bX := B3.out.trans (p4.mono B3.out.size)
  have Q4 := Lib.hid ((p4.block _ l3).trans Q3.out)
  have hszX := Nat.lt_of_lt_of_le hsz bX.size
  refine wpIn_rangeFunc_ownG rfl (by omega) (gf := 24) (lb := #[.pointer (some ⟨w3.heap.size + 1 + 1, 0, none⟩)]) rfl trivial (enters_of Tryd.func24 (by kernel_rfl) rfl)
    (all_stops (8 - 1) (by omega) (w3.heap.size + 1 + 1) w3.heap.size x y hx hy X (by omega) (by omega) (by omega) (hT.keep bX) c0 c1) belowK_t (belowK_b (by omega)) (Below.refl _ _) (fun _ => rfl)
    (fun pre W => (∃ v, Boxed W w3.heap.size 32 v ∧ W.ownsRow X.heap.size 3 1 v pre.length (pre.map (Value.int .i64)) ∧ True) ∧ X.grownBy W (some w3.heap.size))
    (fun _ _ _ => False)
    (OwnFrom.and (Own.from (holdsRow_own X.heap.size w3.heap.size 32 3 1 (fun pre : List Int => pre.length) (fun pre : List Int => pre.map (Value.int .i64)) (fun pre v => True)) _) (ownFrom_but (Nat.le_refl _)))
    (fun _ _ _ _ _ hs _ _ => hs)
    ⟨⟨_, p1, World.ownsRow_nil _ _ _ _, trivial⟩, World.grownBy.refl X _⟩
    (fun v => { tmps := #[.agg #[.int .u64 x, .int .u64 y], .int .i64 lv, .pointer (some ⟨w.heap.size, 0, none⟩), undef, .bool false, vW, .pointer (some ⟨w3.heap.size, 0, none⟩), .pointer (some ⟨w3.heap.size + 1, 0, none⟩), .int .i64 v, undef, undef, .bool true, .bool false, .agg #[.int .u64 x, .int .u64 y], .agg (row (mem x y) 128), vW, .agg #[.int .u64 x, .int .u64 y], .func (.func 24) #[] #[.pointer (some ⟨w3.heap.size + 1 + 1, 0, none⟩)], .int .i64 v, undef, undef, undef, undef, undef, undef, undef, undef, undef, undef, undef, undef, undef, undef, undef, undef, undef, undef, undef, undef, undef, undef, undef, undef, undef, undef, undef, undef, undef, undef, undef, undef, undef, undef, undef, undef, undef, undef, undef, undef], defers := [] }) ?assign ?body ?done ?stop
  case assign =>
    intro l v W K hK
    gi_wp2
    exact hK
  case stop =>
    rintro D c pre W _ _ h _
    exact h.elim
  case body =>
    rintro l pre z W ⟨⟨v, hv, hrow, -⟩, hB⟩ hlt
    have hc := hv.cell
    gi_wp2_with (gi_at_builtin; refine wpListIn_append_own _ rfl _ _ 32 rfl X.heap.size 3 i0 (.int .i64 0) 1 8 Tryd.underlying32 hi hz0 hz1 hz2 rfl (by decide) _ _ _ rfl (hrow.alloc _) ⟨W.heap.size, 0, none⟩ 1 1 [.int .i64 z] rfl rfl (cell_one_new _ _ _) (by simp [Value.oneCell']) (by unfold maxLen; omega) (by omega) (by have := hB.size; simp; omega) ?_; intro v' w1 hown' hgrow _; obtain ⟨g', cap', rfl⟩ := ownsRow_succ hown'; obtain ⟨hv1, hv2, hr2, hk2, hb2, hx2⟩ := app_step hv hrow hB (by omega) hown' hgrow; have hc1 := hv1.cell; have hf1 := hv1.frozen)
    exact ⟨hk2.from _, hb2, ⟨_, hv2, by simpa using hr2, trivial⟩, hx2⟩
  case done =>
    rintro D ys W hD rfl ⟨⟨v, hv, hrow, -⟩, hX⟩ hK
    have T0 : Hid (T64 W) := by
      have h0 : T64 X := hT.keep bX
      exact ⟨Nat.lt_of_lt_of_le h0.1 hX.size, fun j hj => World.grownBy.cell hX (h0.2 j hj) (by show some 0 ≠ some w3.heap.size; intro e; injection e with e; omega)⟩
    have qS : W.heap[w.heap.size]? = some (.cells #[.int .u64 x, .int .u64 y] 24 (0, 0)) := (hX.block _ (by omega) (fun e => by injection e with e; omega)).trans Q4.out
    have bW : Below w3.heap.size w3 W := p4.trans (below_but hX (Nat.le_refl _) p4.size)
    have pB : Boxed W (w3.heap.size + 1) 32 (.slice none 0 0) := p2.kept hX (fun e => by injection e with e; omega)
    have hsW := hX.size
    obtain ⟨d0, d1⟩ := two_keep (Below.refl _ _) qS
    have lW : w.heap.size < W.heap.size := lt_hp qS
    by_cases hn0 : n = 0
    · subst hn0
      have FN := fun (W9 : World) (gN : Nat) (b9 : Below W.heap.size W W9) (c9 : W9.cell? ⟨gN, 0, none⟩ = some (.int .i64 (0 : Nat))) =>
        goes_fin x y hx hy 0 w.heap.size w3.heap.size (w3.heap.size + 1) gN w2.heap.size X.heap.size 0 hn W9 (T0.out.keep b9) vW v (.slice none 0 0) (ownsRow_up (ownsRow_up RW.out bW) b9) (ownsRow_up hrow b9) (by rw [List.take_zero]; exact World.ownsRow_nil _ _ _ _) ((b9.block _ lW).trans qS) ((b9.cell (p := ⟨w3.heap.size, 0, none⟩) hv.lt).trans hv.cell) ((b9.cell (p := ⟨w3.heap.size + 1, 0, none⟩) pB.lt).trans pB.cell) c9
      have FH := Lib.hid FN
      clear FN
      gi_wp2
      rename_i K0 aK
      have b9 := bl_al (Below.refl _ W) (.cells #[.int .i64 0] 3)
      have c9 : (W.alloc (.cells #[.int .i64 0] 3)).cell? ⟨W.heap.size, 0, none⟩ = some (.int .i64 (0 : Nat)) := (Boxed.new W 3 (.int .i64 0)).cell
      have hKb := Lib.hid ((b9.block _ (lt_hp hK)).trans hK)
      refine wpIn_wide.2 ?_
      refine FH.out (W.alloc (.cells #[.int .i64 0] 3)) W.heap.size b9 c9 _ _ ?_ _ _ _ _ _ _ _ _ _ _ _ _ _ _ _ _ _ _ _ _ _ _ _ _ _ _ _ _ _ _ _ _ _ _ _ _ _ _ _ _ _ _ _ _ _ _ _ _ _ _ _ _ _ _
      intro tm W9 h4 h9
      refine aK _ _ ?_
      clear FH aK
      have hK9 := (h9.block _ (lt_hp hKb.out)).trans hKb.out
      have bb := (B3.out.trans (bW.mono B3.out.size)).trans ((bl_tr b9 h9).mono (Nat.le_of_lt lW))
      gi_wp2
      refine ⟨by simp, .inl ⟨_, _, rfl, run_takeDeferred hK9, ?_⟩⟩
      exact ⟨_, results_tmp rfl _ _ _, by rw [h4], bb.trans (belowK_b (w := w) (Nat.le_refl _) W9 D _ _ (by omega) hK9 rfl rfl)⟩
    · have g0 : (0 : Int) < (n : Int) := by omega
      have g1 : 0 < n := by omega
      gi_wp2_with (refine ⟨trivial, ?_⟩; gi_at_call 13; refine (callsIn_wide.2 (all_any x y _)).mono ?_; rintro e w4 ⟨rfl, rfl⟩)
      have t1 := (Boxed.new W 3 (.int .i64 n)).alloc (.cells #[.int .u64 x, .int .u64 y] 24)
      have t2 := new_two (W.alloc (.cells #[.int .i64 n] 3)) x y
      have t3 := bl_al (bl_al (Below.refl W.heap.size W) (.cells #[.int .i64 n] 3)) (.cells #[.int .u64 x, .int .u64 y] 24)
      have t4 : ((W.alloc (.cells #[.int .i64 n] 3)).alloc (.cells #[.int .u64 x, .int .u64 y] 24)).heap.size = W.heap.size + 1 + 1 := by simp
      rw [World.size_alloc] at t2
      clear d0 d1
      have TY := T0.out.keep t3
      have pY : Boxed ((W.alloc (.cells #[.int .i64 n] 3)).alloc (.cells #[.int .u64 x, .int .u64 y] 24)) (w3.heap.size + 1) 32 (.slice none 0 0) := (t3.block _ pB.lt).trans pB
      generalize ((W.alloc (.cells #[.int .i64 n] 3)).alloc (.cells #[.int .u64 x, .int .u64 y] 24)) = Y at *
      obtain ⟨c0, c1⟩ := two_keep (Below.refl _ _) t2
      have t5 : Y.heap.size ≤ W.heap.size + 1 + 1 := by omega
      have t6 : W.heap.size + 1 + 1 ≤ Y.heap.size := by omega
      clear t4
      have n8 : w3.heap.size + 1 < W.heap.size := pB.lt
      have n9 : ¬ w3.heap.size + 1 = W.heap.size := by omega
      have n7 : ¬ W.heap.size = w3.heap.size + 1 := by omega
      have lY : w3.heap.size + 1 < Y.heap.size := pY.lt
      have FN := fun (W9 : World) (vB : Value) (b9 : Y.grownBy W9 (some (w3.heap.size + 1))) (cB : Boxed W9 (w3.heap.size + 1) 32 vB) (B3 : Nat) (rB : W9.ownsRow B3 3 1 vB ((both x y).take n).length (((both x y).take n).map (Value.int .i64))) =>
        goes_fin x y hx hy n w.heap.size w3.heap.size (w3.heap.size + 1) W.heap.size w2.heap.size X.heap.size B3 hn W9 (TY.keep_but b9 (by omega)) vW v vB
          (Go.World.ownsRow.kept (ownsRow_up (ownsRow_up RW.out bW) t3) b9 (.inr (fun e => by have := (RW.out.lt _ e).2; omega))) (Go.World.ownsRow.kept (ownsRow_up hrow t3) b9 (.inr (fun e => by have := (hrow.lt _ e).1; omega))) rB
          ((b9.block _ (by omega) (fun e => by injection e with e; omega)).trans ((t3.block _ lW).trans qS)) (World.grownBy.cell b9 ((t3.cell (p := ⟨w3.heap.size, 0, none⟩) hv.lt).trans hv.cell) (by show some w3.heap.size ≠ some (w3.heap.size + 1); intro e; injection e with e; omega)) cB.cell (World.grownBy.cell b9 t1.cell (by show some W.heap.size ≠ some (w3.heap.size + 1); intro e; injection e with e; have := pB.lt; omega))
      have FH := Lib.hid FN
      clear FN
      have hnB : 0 < w3.heap.size + 1 := by omega
      refine wpIn_rangeFunc_ownG rfl (by omega) (gf := 24) (lb := #[.pointer (some ⟨W.heap.size + 1, 0, none⟩)]) rfl trivial (enters_of Tryd.func24 (by kernel_rfl) rfl)
        (all_stops (8 - 1) (by omega) (W.heap.size + 1) (w3.heap.size + 1) x y hx hy Y hnB (by omega) (by omega) TY c0 c1) belowK_t (belowK_b (by omega)) (Below.refl _ _) (fun _ => rfl)
        (fun pre W2 => (∃ v, Boxed W2 (w3.heap.size + 1) 32 v ∧ W2.ownsRow Y.heap.size 3 1 v pre.length (pre.map (Value.int .i64)) ∧ pre.length < n) ∧ Y.grownBy W2 (some (w3.heap.size + 1)))
        (fun c pre W2 => (∃ v, Boxed W2 (w3.heap.size + 1) 32 v ∧ W2.ownsRow Y.heap.size 3 1 v pre.length (pre.map (Value.int .i64)) ∧ (c = .exit 2 ∧ pre.length = n)) ∧ Y.grownBy W2 (some (w3.heap.size + 1)))
        (OwnFrom.and (Own.from (holdsRow_own Y.heap.size (w3.heap.size + 1) 32 3 1 (fun pre : List Int => pre.length) (fun pre : List Int => pre.map (Value.int .i64)) (fun pre v => pre.length < n)) _) (ownFrom_but (Nat.le_refl _)))
        (fun c => OwnFrom.and (Own.from (holdsRow_own Y.heap.size (w3.heap.size + 1) 32 3 1 (fun pre : List Int => pre.length) (fun pre : List Int => pre.map (Value.int .i64)) (fun pre v => c = .exit 2 ∧ pre.length = n)) _) (ownFrom_but (Nat.le_refl _)))
        ⟨⟨_, pY, World.ownsRow_nil _ _ _ _, g1⟩, World.grownBy.refl Y _⟩
        (fun u => { tmps := #[.agg #[.int .u64 x, .int .u64 y], .int .i64 lv, .pointer (some ⟨w.heap.size, 0, none⟩), undef, .bool false, vW, .pointer (some ⟨w3.heap.size, 0, none⟩), .pointer (some ⟨w3.heap.size + 1, 0, none⟩), undef, .pointer (some ⟨W.heap.size, 0, none⟩), .int .i64 u, .bool true, .bool false, .agg #[.int .u64 x, .int .u64 y], .agg (row (mem x y) 128), vW, .agg #[.int .u64 x, .int .u64 y], .func (.func 24) #[] #[.pointer (some ⟨w3.heap.size + 1 + 1, 0, none⟩)], undef, undef, undef, undef, undef, .int .i64 lv, .int .u64 (IntKind.u64.wrap lv), .int .u64 n, .int .i64 n, .int .i64 n, .bool true, .agg #[.int .u64 x, .int .u64 y], .func (.func 24) #[] #[.pointer (some ⟨W.heap.size + 1, 0, none⟩)], .int .i64 u, undef, undef, undef, undef, undef, undef, undef, undef, undef, undef, undef, undef, undef, undef, undef, undef, undef, undef, undef, undef, undef, undef, undef, undef, undef, undef, undef], defers := [] }) ?assign2 ?body2 ?done2 ?stop2
      case assign2 =>
        intro l v W K hK
        gi_wp2
        exact hK
      case body2 =>
        rintro l pre z W2 ⟨⟨v2, hv2, hrow2, hlt2⟩, hB2⟩ hltb
        have hc := hv2.cell
        by_cases hge : n ≤ pre.length + 1
        · have e1 := Lib.hid (show pre.length + 1 = n from by omega)
          have q1 : (n : Int) ≤ ((pre.length + 1 : Nat) : Int) := by omega
          gi_wp2_with (gi_at_builtin; refine wpListIn_append_own _ rfl _ _ 32 rfl Y.heap.size 3 i0 (.int .i64 0) 1 8 Tryd.underlying32 hi hz0 hz1 hz2 rfl (by decide) _ _ _ rfl (hrow2.alloc _) ⟨W2.heap.size, 0, none⟩ 1 1 [.int .i64 z] rfl rfl (cell_one_new _ _ _) (by simp [Value.oneCell']) (by unfold maxLen; omega) (by omega) (by have := hB2.size; simp; omega) ?_; intro v' w1 hown' hgrow _; obtain ⟨g', cap', rfl⟩ := ownsRow_succ hown'; obtain ⟨hv1, hv3, hr2, hk2, hb2, hx2⟩ := app_step hv2 hrow2 hB2 (by omega) hown' hgrow; have hc1 := hv1.cell; have hf1 := hv1.frozen; have hc3 := hv3.cell; have hc9 := World.grownBy.cell hx2 t1.cell (by show some W.heap.size ≠ some (w3.heap.size + 1); intro e; injection e with e; have := pB.lt; omega); have hc8 := hc9; rw [World.cell?_setCell_other _ _ _ _ (by intro e; injection e with e; omega)] at hc8)
          exact ⟨hk2.from _, ⟨_, hv3, by simpa using hr2, rfl, by simpa using e1.out⟩, hx2⟩
        · have q1 : ¬ (n : Int) ≤ ((pre.length + 1 : Nat) : Int) := by omega
          gi_wp2_with (gi_at_builtin; refine wpListIn_append_own _ rfl _ _ 32 rfl Y.heap.size 3 i0 (.int .i64 0) 1 8 Tryd.underlying32 hi hz0 hz1 hz2 rfl (by decide) _ _ _ rfl (hrow2.alloc _) ⟨W2.heap.size, 0, none⟩ 1 1 [.int .i64 z] rfl rfl (cell_one_new _ _ _) (by simp [Value.oneCell']) (by unfold maxLen; omega) (by omega) (by have := hB2.size; simp; omega) ?_; intro v' w1 hown' hgrow _; obtain ⟨g', cap', rfl⟩ := ownsRow_succ hown'; obtain ⟨hv1, hv3, hr2, hk2, hb2, hx2⟩ := app_step hv2 hrow2 hB2 (by omega) hown' hgrow; have hc1 := hv1.cell; have hf1 := hv1.frozen; have hc3 := hv3.cell; have hc9 := World.grownBy.cell hx2 t1.cell (by show some W.heap.size ≠ some (w3.heap.size + 1); intro e; injection e with e; have := pB.lt; omega); have hc8 := hc9; rw [World.cell?_setCell_other _ _ _ _ (by intro e; injection e with e; omega)] at hc8)
          exact ⟨hk2.from _, hb2, ⟨_, hv3, by simpa using hr2, by simp; omega⟩, hx2⟩
      case done2 =>
        rintro D2 ys W2 hD2 rfl ⟨⟨v2, hv2, hrow2, hlt2⟩, hY⟩ hK2
        have hs2 := hY.size
        have bY : Below w.heap.size Y W2 := below_but hY (by omega) (by omega)
        have hK1 : W2.heap[D]? = some (.deferred (some [])) := (hY.block _ (by have := lt_hp hK; omega) (fun e => by injection e with e; omega)).trans ((t3.block _ (lt_hp hK)).trans hK)
        have F2 := Lib.hid (FH.out W2 v2 hY hv2 Y.heap.size (by rw [List.take_of_length_le (by omega)]; exact hrow2))
        have bb := (B3.out.trans (bW.mono B3.out.size)).trans ((t3.mono (Nat.le_of_lt lW)).trans bY)
        clear FH
        gi_wp2
        rename_i K0 aK
        refine wpIn_wide.2 ?_
        refine F2.out _ _ ?_ _ _ _ _ _ _ _ _ _ _ _ _ _ _ _ _ _ _ _ _ _ _ _ _ _ _ _ _ _ _ _ _ _ _ _ _ _ _ _ _ _ _ _ _ _ _ _ _ _ _ _ _ _ _
        intro tm W9 h4 h9
        refine aK _ _ ?_
        clear F2 aK
        have hK9 := (h9.block _ (lt_hp hK2)).trans hK2
        have hK8 := (h9.block _ (lt_hp hK1)).trans hK1
        have hne : D ≠ D2 := by have := lt_hp hK; omega
        gi_wp2
        refine ⟨by simp, .inl ⟨_, _, rfl, run_takeDeferred hK9, ?_⟩⟩
        have hK7 : (W9.putObj D2 (.deferred none)).heap[D]? = some (.deferred (some [])) := (World.putObj_heap_other hne).trans hK8
        refine ⟨by simp, .inl ⟨_, _, rfl, run_takeDeferred hK7, ?_⟩⟩
        have b8 := belowK_b (w := w) (Nat.le_refl _) W9 D2 _ (.deferred none) (by omega) hK9 rfl rfl
        exact ⟨_, results_tmp rfl _ _ _, by rw [h4], (bb.trans ((h9.mono (by omega)).trans b8)).trans (belowK_b (w := w) (Nat.le_refl _) _ D _ _ (by omega) hK7 rfl rfl)⟩
      case stop2 =>
        rintro D2 c pre W2 hD2 hpre ⟨⟨v2, hv2, hrow2, rfl, hlt2⟩, hY⟩ hK2
        have hp2 : pre = (both x y).take n := by obtain ⟨s, hs⟩ := hpre; rw [← hs, ← hlt2]; simp
        subst hp2
        have hs2 := hY.size
        have bY : Below w.heap.size Y W2 := below_but hY (by omega) (by omega)
        have hK1 : W2.heap[D]? = some (.deferred (some [])) := (hY.block _ (by have := lt_hp hK; omega) (fun e => by injection e with e; omega)).trans ((t3.block _ (lt_hp hK)).trans hK)
        have F2 := Lib.hid (FH.out W2 v2 hY hv2 Y.heap.size hrow2)
        have bb := (B3.out.trans (bW.mono B3.out.size)).trans ((t3.mono (Nat.le_of_lt lW)).trans bY)
        clear FH
        gi_wp2
        rename_i K0 aK
        refine wpIn_wide.2 ?_
        refine F2.out _ _ ?_ _ _ _ _ _ _ _ _ _ _ _ _ _ _ _ _ _ _ _ _ _ _ _ _ _ _ _ _ _ _ _ _ _ _ _ _ _ _ _ _ _ _ _ _ _ _ _ _ _ _ _ _ _ _
        intro tm W9 h4 h9
        refine aK _ _ ?_
        clear F2 aK
        have hK9 := (h9.block _ (lt_hp hK2)).trans hK2
        have hK8 := (h9.block _ (lt_hp hK1)).trans hK1
        have hne : D ≠ D2 := by have := lt_hp hK; omega
        gi_wp2
        refine ⟨by simp, .inl ⟨_, _, rfl, run_takeDeferred hK9, ?_⟩⟩
        have hK7 : (W9.putObj D2 (.deferred none)).heap[D]? = some (.deferred (some [])) := (World.putObj_heap_other hne).trans hK8
        refine ⟨by simp, .inl ⟨_, _, rfl, run_takeDeferred hK7, ?_⟩⟩
        have b8 := belowK_b (w := w) (Nat.le_refl _) W9 D2 _ (.deferred none) (by omega) hK9 rfl rfl
        exact ⟨_, results_tmp rfl _ _ _, by rw [h4], (bb.trans ((h9.mono (by omega)).trans b8)).trans (belowK_b (w := w) (Nat.le_refl _) _ D _ _ (by omega) hK7 rfl rfl)⟩
theorem goesU64 {a : Int} (h : (Lit.int .u64 a).wf = true) : ∃ n : Nat, a = (n : Int) ∧ n < 18446744073709551616 := by
  have : 0 ≤ a ∧ a < 18446744073709551616 := by
    simp [Lit.wf, IntKind.min, IntKind.max, IntKind.signed, IntKind.bits] at h
    omega
  exact ⟨a.toNat, by omega, by omega⟩
theorem setGoes_walk (a b : Int) (fa : (Lit.int .u64 a).wf = true) (fb : (Lit.int .u64 b).wf = true) (lv : Int) (fl : (Lit.int .i64 lv).wf = true) (w : World) (hT : T64 w) :
    Calls Tryd.prog 4 #[.agg #[.int .u64 a, .int .u64 b], .int .i64 lv] w fun e w' => e = .returned (.bool true) ∧ Below w.heap.size w w' := by
  obtain ⟨x, rfl, hx⟩ := goesU64 fa
  obtain ⟨y, rfl, hy⟩ := goesU64 fb
  have h0 : 0 ≤ IntKind.u64.wrap lv := by rw [IntKind.wrap_u64]; omega
  have h1 : (IntKind.u64.wrap lv).tmod 130 = IntKind.u64.wrap lv % 130 := Int.tmod_eq_emod_of_nonneg h0
  refine setGoes_core x y hx hy lv (IntKind.u64.wrap lv % 130).toNat (by omega) (by rw [h1]; omega) w hT
end Go.Proofs.YtnenpgndghdheaaDoor

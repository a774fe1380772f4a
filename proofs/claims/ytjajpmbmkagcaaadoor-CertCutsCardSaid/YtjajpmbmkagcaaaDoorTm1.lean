/-
  cert: what the laws do with a certificate that came in.
-/
import Derived.Test.YtjajpmbmkagcaaaDoorTm0
namespace Go.Proofs.YtjajpmbmkagcaaaDoor
open Go.RowKit
set_option linter.unusedVariables false
theorem tx_run (T : ByteArray) : ∀ W : World, (Instr.slice 9 (.string T) none (some (.int .i64 ((min T.size 500 : Nat) : Int))) none).run Tryd.prog W = .ok (.string (T.extract 0 (min T.size 500))) W := fun W => by
  have h1 : ((min T.size 500 : Nat) : Int) ≤ (T.size : Int) := by omega
  have h2 : (0 : Int) ≤ ((min T.size 500 : Nat) : Int) := by omega
  generalize min T.size 500 = m at *
  go_simp
theorem tx_run2 (T : ByteArray) : ∀ W : World, (Instr.sliceAt 9 (.string T) none (some (.int .i64 ((min T.size 500 : Nat) : Int))) none).run Tryd.prog W = .ok (.string (T.extract 0 (min T.size 500))) W := fun W => by
  have h1 : ((min T.size 500 : Nat) : Int) ≤ (T.size : Int) := by omega
  have h2 : (0 : Int) ≤ ((min T.size 500 : Nat) : Int) := by omega
  generalize min T.size 500 = m at *
  go_simp
set_option maxRecDepth 100000 in
set_option maxHeartbeats 8000000 in
theorem tame_any {V : Int} {T : ByteArray} {L : List Int} {a : Option Addr} {n c : Nat} {w : World} (h : Arg 70 w a n c L) : Calls Tryd.prog 7 #[.agg #[.int .i64 V, .slice a n c, .string T]] w (TmP V L (T.extract 0 (min T.size 500)) w) := by
  have b1 := bl_al (Below.refl _ w) (.cells #[.int .i64 V, .slice a n c, .string T] 24)
  have b2 := bl_al b1 (.cells #[.int .i64 0, .slice none 0 0, .string ⟨#[]⟩] 24)
  have e1 := heap_alloc_new w (.cells #[.int .i64 V, .slice a n c, .string T] 24)
  have e2 := heap_alloc_new (w.alloc (.cells #[.int .i64 V, .slice a n c, .string T] 24)) (.cells #[.int .i64 0, .slice none 0 0, .string ⟨#[]⟩] 24)
  have e1' := (heap_alloc_old (w.alloc (.cells #[.int .i64 V, .slice a n c, .string T] 24)) (.cells #[.int .i64 0, .slice none 0 0, .string ⟨#[]⟩] 24) (lt_hp e1)).trans e1
  rw [World.size_alloc] at e2
  have hl := h.len
  have SA := Lib.hid (fun X (hb : Below w.heap.size w X) => arg_srcA h X hb)
  have s1 := sl_run 70 w a n c L h
  have s2 := sl_run2 70 w a n c L h
  have m1 : (if (70 : Int) < (n : Int) then 70 else (n : Int)) = (L.length : Int) := by have := hl.2.2; split <;> omega
  have m3 : min (n : Int) 70 = (L.length : Int) := hl.2.2
  have m4 : min (T.size : Int) 500 = ((min T.size 500 : Nat) : Int) := by omega
  have s4 := tx_run2 T
  have m2 : (if (500 : Int) < (T.size : Int) then 500 else (T.size : Int)) = ((min T.size 500 : Nat) : Int) := by split <;> omega
  have s3 := tx_run T
  have hL := hl.1
  generalize T.extract 0 (min T.size 500) = T5 at *
  generalize min T.size 500 = t5 at *
  have HB := Lib.hid b2
  have E1 := Lib.hid e1'
  have E2 := Lib.hid e2
  have c0 := EB.cells e1'
  clear h b1 b2 e1 e2 e1' hl
  go_enter Tryd.func7, Tryd.ntmps7
  go_upto_region 1 with fail
  generalize (w.alloc (.cells #[.int .i64 V, .slice a n c, .string T] 24)).alloc (.cells #[.int .i64 0, .slice none 0 0, .string ⟨#[]⟩] 24) = X at *
  have HZ := Lib.hid (lt_hp E2.out)
  have hz1 : w.heap.size + 1 < X.heap.size := HZ.out
  have FX := Lib.hid (fun Y (hb : Below X.heap.size X Y) => show (Y.cell? ⟨w.heap.size, 0, none⟩ = some (.int .i64 V) ∧ Y.cell? ⟨w.heap.size, 1, none⟩ = some (.slice a n c) ∧ Y.cell? ⟨w.heap.size, 2, none⟩ = some (.string T)) from
    EB.cells ((hb.block w.heap.size (by omega)).trans E1.out))
  have FZ := Lib.hid (fun Y (hb : Below X.heap.size X Y) => show (Y.frozen? ⟨w.heap.size + 1, 0, none⟩ = false ∧ Y.frozen? ⟨w.heap.size + 1, 1, none⟩ = false ∧ Y.frozen? ⟨w.heap.size + 1, 2, none⟩ = false) ∧ (Y.cell? ⟨w.heap.size + 1, 0, none⟩ = some (.int .i64 0) ∧ Y.cell? ⟨w.heap.size + 1, 1, none⟩ = some (.slice none 0 0) ∧ Y.cell? ⟨w.heap.size + 1, 2, none⟩ = some (.string ⟨#[]⟩)) from
    have e := (hb.block (w.heap.size + 1) hz1).trans E2.out
    ⟨⟨by simp [World.frozen?, e], by simp [World.frozen?, e], by simp [World.frozen?, e]⟩, EB.cells e⟩)
  have B1 := Lib.hid (show Below w.heap.size w (X.alloc (.cells #[] 3)).drew from bl_tr HB.out (bl_al (Below.refl _ X) (.cells #[] 3)).drew)
  have d1 := FX.out X.drew (bl_drew X)
  have d2 := FX.out (X.alloc (.cells #[] 3)).drew (bl_al (Below.refl _ X) (.cells #[] 3)).drew
  go_region_held3 (fun Y => Y.cell? ⟨w.heap.size, 0, none⟩ = some (.int .i64 V) ∧ Y.cell? ⟨w.heap.size, 1, none⟩ = some (.slice a n c) ∧ Y.cell? ⟨w.heap.size, 2, none⟩ = some (.string T)) (first | exact c0 | exact d1 | exact d2 | exact d3 | (refine ⟨?_, ?_, ?_⟩ <;> simp [go_sem, *]))
    (first
      | (refine step_app (by rfl) _ _ (by rfl) (by rfl) X.heap.size X.heap.size L a c (by rfl) (by rfl) (by omega) (own0 X).drew (by simp) (SA.out _ B1.out) ?_; intro g cap w2 ho2 hg2 hlt2; have hg3 := app_below (undrew_g hg2); have NL := Lib.hid (show Ol X.heap.size (.slice (some ⟨g, 0, none⟩) L.length cap) L w2 from ho2); have B3 := Lib.hid hg3; have d3 := FX.out w2 hg3; obtain ⟨⟨f0, f1, f2⟩, g0, g1, g2⟩ := FZ.out w2 hg3; clear ho2 hg2 hlt2 hg3)
      | fail)
  all_goals
    have C2 := Lib.hid (show EB (w.heap.size + 1) 0 (.slice none 0 0) ⟨#[]⟩ 24 w2 from (B3.out.block (w.heap.size + 1) hz1).trans E2.out)
    have st := (((Tw.refl [w.heap.size + 1] w2).st (w.heap.size + 1) (.inl (by simp)) 0 (.int .i64 V)).st (w.heap.size + 1) (.inl (by simp)) 1 (.slice (some ⟨g, 0, none⟩) L.length cap)).st (w.heap.size + 1) (.inl (by simp)) 2 (.string T5)
    have C3 := Lib.hid (C2.out.put V (.slice (some ⟨g, 0, none⟩) L.length cap) T5)
    have OF := Lib.hid ((NL.out.keep st (fun i hi => by simp at hi; subst hi; exact NL.out.far C2.out (by decide))).mono HB.out.size)
    have BF := Lib.hid (Tw.below (bl_tr HB.out B3.out) st (fun i hi => by simp at hi; omega) (by have := HB.out.size; have := B3.out.size; omega))
    clear st C2 d3 f0 f1 f2 g0 g1 g2 d1 d2 c0 FX FZ SA B1 NL B3
    go_wp2
    obtain ⟨d0, d1, d2⟩ := EB.cells C3.out
    refine bodyPost_ret (by simp [results, Tryd.results7, go_sem, d0, d1, d2]; rfl) rfl ?_
    exact ⟨_, rfl, OF.out, BF.out⟩
end Go.Proofs.YtjajpmbmkagcaaaDoor

/-
  Pop, where there are two places.
-/
import Derived.Test.YtiiclonklihaiaaIns
namespace Go.Proofs.Ytiiclonklihaiaa
open Go.RowKit
set_option linter.unusedVariables false
theorem MD.dr {B b g L : Nat} {vs : Nat → Value} {ls : Nat → List (Int × Int)} {w : World} (h : MD B b g L vs ls w) : MD B b g L vs ls w.drew := ⟨h.box, h.top, h.rows, h.ap, h.len⟩
theorem MD.frz {B b g L : Nat} {vs : Nat → Value} {ls : Nat → List (Int × Int)} {w : World} (h : MD B b g L vs ls w) (p : Nat) : w.frozen? ⟨g, p, none⟩ = false := by
  obtain ⟨cur, hg, hc⟩ := h.top
  exact frozen_of_row _ _ _ _ _ hg
set_option maxHeartbeats 2000000 in
theorem lc1 (B b g : Nat) (vs : Nat → Value) (ls : Nat → List (Int × Int)) (w : World) (h : MD B b g 2 vs ls w) :
    Calls Try.prog 34 #[.pointer (some ⟨b, 0, none⟩), .int .i64 1] w fun e w' => e = .returned (.int .i64 0) ∧ w = w' := by
  have c0 := h.cells.1
  clear h
  go_enter Try.func34, Try.ntmps34
  go_wp2
  go_ret
  exact ⟨rfl, rfl⟩
set_option maxHeartbeats 4000000 in
theorem sink1 (B b g : Nat) (vs : Nat → Value) (ls : Nat → List (Int × Int)) (w : World) (h : MD B b g 2 vs ls w) (h0 : ls 0 = []) :
    Calls Try.prog 22 #[.pointer (some ⟨b, 0, none⟩)] w fun e w' => e = .returned (.tuple #[]) ∧ Below w.heap.size w w' := by
  have HL := Lib.hid (lc1 B b g vs ls w h)
  have HS : Hid (Calls Try.prog 35 #[.pointer (some ⟨b, 0, none⟩), .int .i64 0, .int .i64 1] w fun e w' => e = .returned (.bool false) ∧ Below w.heap.size w w') := by
    have := less_any B b g 2 vs ls 0 1 (by decide) (by decide) w h
    rw [show ltv (frst (ls 0)) (frst (ls 1)) = false from by rw [h0]; rfl] at this
    exact this
  clear h h0
  go_enter Try.func22, Try.ntmps22
  go_wp2_with fail
  refine HL.out.mono ?_
  rintro e w1 ⟨rfl, rfl⟩
  clear HL
  go_wp2
  go_loopw [2, 3] (fun x y wr => x = .int .i64 1 ∧ y = .int .i64 0 ∧ wr = w) (fun _ _ _ => 0)
  case atStart => exact ⟨rfl, rfl, rfl⟩
  case round =>
    obtain ⟨rfl, rfl, rfl⟩ := hrel
    go_wp2_with fail
    refine HS.out.mono ?_
    rintro e w2 ⟨rfl, hB⟩
    have BH := Lib.hid hB
    clear HS hB
    go_wp2
    exact bodyPost_end (results_none rfl _ _ _) rfl ⟨rfl, BH.out⟩
/-- the last item goes -/
theorem own_cut {w : World} {B g n c : Nat} {l0 : List (Int × Int)} {x : Int × Int} (hn : n = l0.length + 1) (h : w.ownsRow B 24 2 (.slice (some ⟨g, 0, none⟩) n c) n (encI (l0 ++ [x]))) : w.ownsRow B 24 2 (.slice (some ⟨g, 0, none⟩) (n - 1) c) l0.length (encI l0) := by
  have hn1 : n - 1 = l0.length := by omega
  rw [hn1]
  refine ⟨encI_len l0, ?_⟩
  rcases h.2 with ⟨e, _⟩ | ⟨g', cap, cur, e, hb, hh, hn2, hm, hs, ht⟩
  · cases e
  · injection e with e1 e2 e3
    injection e1 with e1
    injection e1 with e1
    subst e1 e3
    refine Or.inr ⟨g, c, cur, rfl, hb, hh, by omega, hm, hs, ?_⟩
    have e : (cur.toList.take (n * 2)).take (l0.length * 2) = cur.toList.take (l0.length * 2) := by rw [List.take_take, Nat.min_eq_left (by omega)]
    rw [← e, ht, encI_app, List.take_append_of_le_length (by rw [encI_len]; exact Nat.le_refl _), ← encI_len l0, List.take_length]
theorem md_cut {B b g g' n c : Nat} {vs : Nat → Value} {ls : Nat → List (Int × Int)} {l0 : List (Int × Int)} {x : Int × Int} {w : World} (h : MD B b g 2 vs ls w) (hl : ls 1 = l0 ++ [x]) (hv : vs 1 = .slice (some ⟨g', 0, none⟩) n c) (hn : n = l0.length + 1) :
    MD B b g 2 (upV vs (.slice (some ⟨g', 0, none⟩) (n - 1) c)) (upL ls l0) (w.setCell ⟨g, 1, none⟩ (.slice (some ⟨g', 0, none⟩) (n - 1) c)) := by
  obtain ⟨cur, ht, hc⟩ := h.top
  have hgb : b ≠ g := fun e => by
    have h1 := h.box
    rw [e, ht] at h1
    injection h1 with h1
    injection h1 with _ h1
    exact absurd h1 (by decide)
  have r1 := h.rows 1 (by decide)
  rw [hl, hv, show (l0 ++ [x]).length = n by simp; omega] at r1
  have r1c := own_cut hn r1
  have kp : ∀ {u : Value} {k : Nat} {xs : List Value}, w.ownsRow B 24 2 u k xs → (w.setCell ⟨g, 1, none⟩ (.slice (some ⟨g', 0, none⟩) (n - 1) c)).ownsRow B 24 2 u k xs := fun hu => ownsRow_setCell_other (a := ⟨g, 1, none⟩) hu (row_neE hu ht (by decide)) _
  refine ⟨(heap_setCell_other w ⟨g, 1, none⟩ b _ hgb).trans h.box, ⟨_, heap_setCell_same w g 1 cur 50 _ ht, fun p hp => ?_⟩, fun p hp => ?_, fun p q y hp hq hne hx => ?_, fun p hp => ?_⟩
  · rcases (show p = 0 ∨ p = 1 by omega) with rfl | rfl
    · have := hc 0 (by decide)
      simp [upV, this]
    · have := hc 1 (by decide)
      have hs : 1 < cur.size := by rcases Nat.lt_or_ge 1 cur.size with q | q; exact q; rw [Array.getElem?_eq_none q] at this; cases this
      simp [upV, hs]
  · rcases (show p = 0 ∨ p = 1 by omega) with rfl | rfl
    · exact kp (h.rows 0 (by decide))
    · exact kp r1c
  · have a01 := h.ap 0 1
    rw [hv] at a01
    rcases (show p = 0 ∨ p = 1 by omega) with rfl | rfl <;> rcases (show q = 0 ∨ q = 1 by omega) with rfl | rfl
    · omega
    · exact a01 y (by decide) (by decide) (by decide) hx
    · exact fun e => a01 y (by decide) (by decide) (by decide) e hx
    · omega
  · have h0 := h.len 0 (by decide)
    have h1 := h.len 1 (by decide)
    rw [hl] at h1
    simp at h1
    rcases (show p = 0 ∨ p = 1 by omega) with rfl | rfl
    · exact h0
    · show l0.length ≤ 1000; omega
/-- a store into an item of one's own -/
theorem md_far {B b g L x j : Nat} {vs : Nat → Value} {ls : Nat → List (Int × Int)} {w : World} {u : Value} {cs : Array Value} (h : MD B b g L vs ls w) (hx : ∀ p, p < L → (vs p).ownBlock ≠ some x) (hc : w.heap[x]? = some (.cells cs 24 (0, 0))) : MD B b g L vs ls (w.setCell ⟨x, j, none⟩ u) := by
  obtain ⟨cur, hg, hcc⟩ := h.top
  have n1 : b ≠ x := fun e => by have := h.box; rw [e, hc] at this; injection this with this; injection this with _ this; exact absurd this (by decide)
  have n2 : g ≠ x := fun e => by rw [e, hc] at hg; injection hg with hg; injection hg with _ hg; exact absurd hg (by decide)
  exact ⟨(heap_setCell_other w ⟨x, j, none⟩ b u n1).trans h.box, ⟨cur, (heap_setCell_other w ⟨x, j, none⟩ g u n2).trans hg, hcc⟩, fun p hp => ownsRow_setCell_other (a := ⟨x, j, none⟩) (h.rows p hp) (hx p hp) u, h.ap, h.len⟩
set_option maxRecDepth 100000 in
set_option maxHeartbeats 8000000 in
theorem pop_some (B b g : Nat) (vs : Nat → Value) (ls : Nat → List (Int × Int)) (l0 : List (Int × Int)) (key id : Int) (w : World) (h : MD B b g 2 vs ls w) (hB : B ≤ w.heap.size) (hge : B ≤ b ∧ B ≤ g) (h0 : ls 0 = []) (h1 : ls 1 = l0 ++ [(key, id)]) :
    Calls Try.prog 9 #[.pointer (some ⟨b, 0, none⟩)] w fun e w' => e = .returned (.tuple #[.agg #[.int .i64 key, .int .i64 id], .bool true]) ∧ ∃ v, MD B b g 2 (upV vs v) (upL ls l0) w' ∧ Below B w w' ∧ w.grownBy w' (some g) := by
  have hw0 := h.up (bl_al (Below.refl _ _) item0)
  have HM := Lib.hid (min_any B b g 2 (by decide) (by decide) vs ls _ hw0)
  rw [show frst (ls 1) = some (key, id) from by rw [h1]; unfold frst; simp] at HM
  have HM2 : Hid (Calls Try.prog 8 #[.pointer (some ⟨b, 0, none⟩)] (w.alloc item0) fun e w' => e = .returned (.tuple #[.agg #[.int .i64 key, .int .i64 id], .bool true]) ∧ Below (w.alloc item0).heap.size (w.alloc item0) w') := HM
  have hr := h.rows 1 (by decide)
  have hlen := h.len 1 (by decide)
  rw [h1] at hr hlen
  obtain ⟨g', cv, hv, hg1, hg2⟩ := hr.form (by simp)
  obtain ⟨n1, hn1⟩ : ∃ n1, n1 = (l0 ++ [(key, id)]).length := ⟨_, rfl⟩
  rw [← hn1] at hv hlen
  have hn2 : n1 = l0.length + 1 := by rw [hn1]; simp
  have HV := Lib.hid hv
  have HE := Lib.hid h0
  have B0 : Hid (Below w.heap.size w (w.alloc item0)) := bl_al (Below.refl _ _) _
  have Q0 : Hid ((w.alloc item0).heap[w.heap.size]? = some item0 ∧ w.heap.size < (w.alloc item0).heap.size) := ⟨heap_alloc_new w item0, by simp⟩
  have HU : Hid (∀ W, Below w.heap.size w W → MD B b g 2 vs ls W) := fun W hW => h.up hW
  have HX : Hid (∀ W, MD B b g 2 vs ls W → MD B b g 2 (upV vs (.slice (some ⟨g', 0, none⟩) (n1 - 1) cv)) (upL ls l0) (W.setCell ⟨g, 1, none⟩ (.slice (some ⟨g', 0, none⟩) (n1 - 1) cv))) := fun W hW => md_cut hW h1 hv hn2
  have HGE := Lib.hid (And.intro hB hge)
  have HFR : Hid (∀ p, p < 2 → (upV vs (.slice (some ⟨g', 0, none⟩) (n1 - 1) cv) p).ownBlock ≠ some w.heap.size)   := fun p hp e => by
    rcases (show p = 0 ∨ p = 1 by omega) with rfl | rfl
    · have := ((h.rows 0 (by decide)).lt _ e).2; omega
    · have e2 : (vs 1).ownBlock = some w.heap.size := by rw [hv]; exact e
      have := ((h.rows 1 (by decide)).lt _ e2).2; omega
  have d1 : IntKind.i64.wrap ((n1 : Int) - 1) = (n1 : Int) - 1 := IntWalk.i64_in _ (by omega)
  have d2 : (0 : Int) ≤ (n1 : Int) - 1 := by omega
  have d4 : ((n1 : Int) - 1).toNat = n1 - 1 := by omega
  have hcap : n1 ≤ cv := by
    rcases hr.2 with ⟨e, _⟩ | ⟨g2, cap, cur, e, hb, hh, hn3, _⟩
    · rw [hv] at e; cases e
    · rw [hv] at e; injection e with e1 e2 e3; rw [e3, hn1]; exact hn3
  have d3 : (n1 : Int) - 1 ≤ (cv : Int) := by omega
  have d5 : (1 : Int) ≤ (n1 : Int) := by omega
  have d6 : 1 ≤ n1 := by omega
  unfold item0 at HM2 B0 Q0
  clear h hw0 HM hr hlen hv hg1 hg2 hn1 hn2 h0 h1 hB hge hcap
  go_enter Try.func9, Try.ntmps9
  go_wp2_with fail
  refine HM2.out.mono ?_
  rintro e w1 ⟨rfl, hB1⟩
  have z : w.heap.size < w1.heap.size := Nat.lt_of_lt_of_le Q0.out.2 hB1.size
  have hba : Below w.heap.size w (w1.alloc (.cells #[.int .i64 key, .int .i64 id] 24)) := bl_al (bl_tr B0.out hB1) _
  have hqa : (w1.alloc (.cells #[.int .i64 key, .int .i64 id] 24)).heap[w.heap.size]? = some (.cells #[.int .i64 0, .int .i64 0] 24 (0, 0)) := (Below.heap_alloc w1 _ _ z).trans ((hB1.block _ Q0.out.2).trans Q0.out.1)
  have hia : (w1.alloc (.cells #[.int .i64 key, .int .i64 id] 24)).heap[w1.heap.size]? = some (.cells #[.int .i64 key, .int .i64 id] 24 (0, 0)) := heap_alloc_new w1 _
  have HK := Lib.hid (HU.out _ hba)
  have hgg : w.heap.size ≠ g ∧ w1.heap.size ≠ g := by
    obtain ⟨cur, hg, hc⟩ := HK.out.top
    refine ⟨fun e => ?_, fun e => ?_⟩
    · rw [← e, hqa] at hg; injection hg with hg; injection hg with _ hg; exact absurd hg (by decide)
    · rw [← e, hia] at hg; injection hg with hg; injection hg with _ hg; exact absurd hg (by decide)
  have hBB : Hid (Below w.heap.size w (w1.alloc (.cells #[.int .i64 key, .int .i64 id] 24)).drew ∧ (w1.alloc (.cells #[.int .i64 key, .int .i64 id] 24)).drew.heap[w.heap.size]? = some (.cells #[.int .i64 0, .int .i64 0] 24 (0, 0)) ∧ (w1.alloc (.cells #[.int .i64 key, .int .i64 id] 24)).drew.heap[w1.heap.size]? = some (.cells #[.int .i64 key, .int .i64 id] 24 (0, 0)) ∧ w.heap.size < w1.heap.size ∧ w.heap.size ≠ g ∧ w1.heap.size ≠ g) :=
    ⟨⟨hba.os, hba.tape, hba.output, hba.size, hba.block⟩, hqa, hia, z, hgg.1, hgg.2⟩
  have HKT : Hid True := trivial
  clear HM2 hB1 B0 Q0 HU z hba hqa hia hgg
  go_wp2
  refine wp_region_held_drew (S := fun w' => w'.cell? ⟨b, 0, none⟩ = some (.slice (some ⟨g, 0, none⟩) 2 2)) (by kernel_rfl) HK.out.dr.cells.1 (fun hHeld => ?_)
  have HKd := Lib.hid HK.out.dr
  clear HK
  have HK := HKd
  clear HKd
  generalize World.drew _ = vu1 at *
  refine wpAnyH_take (i := 0) (v := ?vu2) (by rw [List.getElem?_toArray]; rfl) (by kernel_rfl) (by kernel_rfl) (by kernel_rfl) ?ku2 (Or.inl ⟨by rfl, ?yu2⟩) hHeld ?ru2
  case ku2 => exact fun _ _ _ h => h
  case yu2 => (intro wz hSw; go_simp; try (with_reducible rfl))
  simp only [Act.put, List.setIfInBounds_toArray, List.set_cons_zero, List.set_cons_succ]
  refine wpAnyH_take (i := 1) (v := ?vu3) (by rw [List.getElem?_toArray]; rfl) (by kernel_rfl) (by kernel_rfl) (by kernel_rfl) ?ku3 (Or.inl ⟨by rfl, ?yu3⟩) hHeld ?ru3
  case ku3 => exact fun _ _ _ h => h
  case yu3 => (intro wz hSw; go_simp; try (with_reducible rfl))
  simp only [Act.put, List.setIfInBounds_toArray, List.set_cons_zero, List.set_cons_succ]
  refine wpAnyH_take (i := 2) (v := ?vu4) (by rw [List.getElem?_toArray]; rfl) (by kernel_rfl) (by kernel_rfl) (by kernel_rfl) ?ku4 (Or.inl ⟨by rfl, ?yu4⟩) hHeld ?ru4
  case ku4 => exact fun _ _ _ h => h
  case yu4 => (intro wz hSw; go_simp; try (with_reducible rfl))
  simp only [Act.put, List.setIfInBounds_toArray, List.set_cons_zero, List.set_cons_succ]
  refine wpAnyH_take (i := 3) (v := ?vu5) (by rw [List.getElem?_toArray]; rfl) (by kernel_rfl) (by kernel_rfl) (by kernel_rfl) ?ku5 (Or.inl ⟨by rfl, ?yu5⟩) hHeld ?ru5
  case ku5 => exact fun _ _ _ h => h
  case yu5 => (intro wz hSw; go_simp; try (with_reducible rfl))
  simp only [Act.put, List.setIfInBounds_toArray, List.set_cons_zero, List.set_cons_succ]
  refine wpAnyH_take (i := 4) (v := ?vu6) (by rw [List.getElem?_toArray]; rfl) (by kernel_rfl) (by kernel_rfl) (by kernel_rfl) ?ku6 (Or.inl ⟨by rfl, ?yu6⟩) hHeld ?ru6
  case ku6 => exact fun _ _ _ h => h
  case yu6 => (intro wz hSw; go_simp; try (with_reducible rfl))
  simp only [Act.put, List.setIfInBounds_toArray, List.set_cons_zero, List.set_cons_succ]
  refine wpAnyH_take (i := 5) (v := ?vu7) (by rw [List.getElem?_toArray]; rfl) (by kernel_rfl) (by kernel_rfl) (by kernel_rfl) ?ku7 (Or.inl ⟨by rfl, ?yu7⟩) hHeld ?ru7
  case ku7 => exact fun _ _ _ h => h
  case yu7 => (intro wz hSw; go_simp; try (with_reducible rfl))
  simp only [Act.put, List.setIfInBounds_toArray, List.set_cons_zero, List.set_cons_succ]
  refine wpAnyH_take (i := 6) (v := ?vu8) (by rw [List.getElem?_toArray]; rfl) (by kernel_rfl) (by kernel_rfl) (by kernel_rfl) ?ku8 (Or.inl ⟨by rfl, ?yu8⟩) hHeld ?ru8
  case ku8 => exact fun _ _ _ h => h
  case yu8 => (intro wz hSw; go_simp; try (with_reducible rfl))
  simp only [Act.put, List.setIfInBounds_toArray, List.set_cons_zero, List.set_cons_succ]
  refine wpAnyH_take (i := 7) (v := ?vu9) (by rw [List.getElem?_toArray]; rfl) (by kernel_rfl) (by kernel_rfl) (by kernel_rfl) ?ku9 (Or.inl ⟨by rfl, ?yu9⟩) hHeld ?ru9
  case ku9 => exact fun _ _ _ h => h
  case yu9 => (intro wz hSw; go_simp; try (with_reducible rfl))
  simp only [Act.put, List.setIfInBounds_toArray, List.set_cons_zero, List.set_cons_succ]
  refine wpAnyH_take (i := 8) (v := ?vu10) (by rw [List.getElem?_toArray]; rfl) (by kernel_rfl) (by kernel_rfl) (by kernel_rfl) ?ku10 (Or.inl ⟨by rfl, ?yu10⟩) hHeld ?ru10
  case ku10 => exact fun _ _ _ h => h
  case yu10 => (intro wz hSw; go_simp; try (with_reducible rfl))
  simp only [Act.put, List.setIfInBounds_toArray, List.set_cons_zero, List.set_cons_succ]
  refine wpAnyH_take (i := 10) (v := ?vu11) (by rw [List.getElem?_toArray]; rfl) (by kernel_rfl) (by kernel_rfl) (by kernel_rfl) ?ku11 (Or.inl ⟨by rfl, ?yu11⟩) hHeld ?ru11
  case ku11 => exact fun _ _ _ h => h
  case yu11 => (intro wz hSw; go_simp; try (with_reducible rfl))
  simp only [Act.put, List.setIfInBounds_toArray, List.set_cons_zero, List.set_cons_succ]
  refine wpAnyH_take (i := 11) (v := ?vu12) (by rw [List.getElem?_toArray]; rfl) (by kernel_rfl) (by kernel_rfl) (by kernel_rfl) ?ku12 (Or.inl ⟨by rfl, ?yu12⟩) hHeld ?ru12
  case ku12 => exact fun _ _ _ h => h
  case yu12 => (intro wz hSw; go_simp; try (with_reducible rfl))
  simp only [Act.put, List.setIfInBounds_toArray, List.set_cons_zero, List.set_cons_succ]
  refine wpAnyH_take (i := 12) (v := ?vu13) (by rw [List.getElem?_toArray]; rfl) (by kernel_rfl) (by kernel_rfl) (by kernel_rfl) ?ku13 (Or.inl ⟨by rfl, ?yu13⟩) hHeld ?ru13
  case ku13 => exact fun _ _ _ h => h
  case yu13 => (intro wz hSw; go_simp; try (with_reducible rfl))
  simp only [Act.put, List.setIfInBounds_toArray, List.set_cons_zero, List.set_cons_succ]
  refine wpAnyH_take (i := 13) (v := ?vu14) (by rw [List.getElem?_toArray]; rfl) (by kernel_rfl) (by kernel_rfl) (by kernel_rfl) ?ku14 (Or.inl ⟨by rfl, ?yu14⟩) hHeld ?ru14
  case ku14 => exact fun _ _ _ h => h
  case yu14 => (intro wz hSw; go_simp; try (with_reducible rfl))
  simp only [Act.put, List.setIfInBounds_toArray, List.set_cons_zero, List.set_cons_succ]
  refine wpAnyH_take (i := 14) (v := ?vu15) (by rw [List.getElem?_toArray]; rfl) (by kernel_rfl) (by kernel_rfl) (by kernel_rfl) ?ku15 (Or.inl ⟨by rfl, ?yu15⟩) hHeld ?ru15
  case ku15 => exact fun _ _ _ h => h
  case yu15 => (intro wz hSw; go_simp; try (with_reducible rfl))
  simp only [Act.put, List.setIfInBounds_toArray, List.set_cons_zero, List.set_cons_succ]
  refine wpAnyH_ready (rs := [9, 15]) (by kernel_rfl) (by simp) ?_
  refine AllReadyH.cons (by rw [List.getElem?_toArray]; rfl) (fun K hK => ?_) (AllReadyH.cons (by rw [List.getElem?_toArray]; rfl) (fun K hK => ?_) AllReadyH.nil)
  · have c5 : vu1.cell? ⟨g, 1, none⟩ = some (.slice (some ⟨g', 0, none⟩) n1 cv) := by rw [HK.out.cells.2 1 (by decide), HV.out]
    clear hHeld
    go_simp
    refine hK.out _ _ HK.out.cells.1 (fun hHeld => ?_)
    clear hK K c5
    refine wpAnyH_ready (rs := [15]) (by kernel_rfl) (by simp) ?_
    refine AllReadyH.cons (by rw [List.getElem?_toArray]; rfl) (fun K hK => ?_) AllReadyH.nil
    have c5 : vu1.cell? ⟨g, 1, none⟩ = some (.slice (some ⟨g', 0, none⟩) n1 cv) := by rw [HK.out.cells.2 1 (by decide), HV.out]
    clear hHeld
    go_simp
    refine hK.out _ _ HK.out.cells.1 (fun hHeld => ?_)
    clear hK K c5
    refine wpAnyH_take (i := 16) (v := ?vu16) (by rw [List.getElem?_toArray]; rfl) (by kernel_rfl) (by kernel_rfl) (by kernel_rfl) ?ku16 (Or.inl ⟨by rfl, ?yu16⟩) hHeld ?ru16
    case ku16 => exact fun _ _ _ h => h
    case yu16 => (intro wz hSw; clear hSw; go_simp; try (with_reducible rfl))
    simp only [Act.put, List.setIfInBounds_toArray, List.set_cons_zero, List.set_cons_succ]
    refine wpAnyH_take (i := 17) (v := ?vu17) (by rw [List.getElem?_toArray]; rfl) (by kernel_rfl) (by kernel_rfl) (by kernel_rfl) ?ku17 (Or.inl ⟨by rfl, ?yu17⟩) hHeld ?ru17
    case ku17 => exact fun _ _ _ h => h
    case yu17 => (intro wz hSw; clear hSw; go_simp; try (with_reducible rfl))
    simp only [Act.put, List.setIfInBounds_toArray, List.set_cons_zero, List.set_cons_succ]
    refine wpAnyH_take (i := 18) (v := ?vu18) (by rw [List.getElem?_toArray]; rfl) (by kernel_rfl) (by kernel_rfl) (by kernel_rfl) ?ku18 (Or.inl ⟨by rfl, ?yu18⟩) hHeld ?ru18
    case ku18 => exact fun _ _ _ h => h
    case yu18 => (intro wz hSw; clear hSw; go_simp; try (with_reducible rfl))
    simp only [Act.put, List.setIfInBounds_toArray, List.set_cons_zero, List.set_cons_succ]
    refine wpAnyH_take (i := 19) (v := ?vu19) (by rw [List.getElem?_toArray]; rfl) (by kernel_rfl) (by kernel_rfl) (by kernel_rfl) ?ku19 (Or.inl ⟨by rfl, ?yu19⟩) hHeld ?ru19
    case ku19 => exact fun _ _ _ h => h
    case yu19 => (intro wz hSw; go_simp; try (with_reducible rfl))
    simp only [Act.put, List.setIfInBounds_toArray, List.set_cons_zero, List.set_cons_succ]
    refine wpAnyH_ready (rs := [20]) (by kernel_rfl) (by simp) ?_
    refine AllReadyH.cons (by rw [List.getElem?_toArray]; rfl) (fun K hK => ?_) AllReadyH.nil
    have c5 : vu1.cell? ⟨g, 1, none⟩ = some (.slice (some ⟨g', 0, none⟩) n1 cv) := by rw [HK.out.cells.2 1 (by decide), HV.out]
    have f5 : vu1.frozen? ⟨g, 1, none⟩ = false := HK.out.frz 1
    have HP := Lib.hid (HX.out _ HK.out)
    clear hHeld HK
    go_simp
    refine hK.out _ _ HP.out.cells.1 (fun hHeld => ?_)
    clear hK K c5 f5 hHeld
    refine wpAnyH_done (by kernel_rfl) ?_ _
    have hcur := HKT.out
    obtain ⟨a1, a2, a3, a4, a5, a6⟩ := hBB.out
    have HS := Lib.hid (sink1 B b g _ _ _ HP.out (show ls 0 = [] from HE.out))
    have o1 := (heap_setCell_other vu1 ⟨g, 1, none⟩ w.heap.size (.slice (some ⟨g', 0, none⟩) (n1 - 1) cv) a5).trans a2
    have o2 := (heap_setCell_other vu1 ⟨g, 1, none⟩ w1.heap.size (.slice (some ⟨g', 0, none⟩) (n1 - 1) cv) a6).trans a3
    have HO := Lib.hid (And.intro o1 o2)
    have BG : Hid (Below B w (vu1.setCell ⟨g, 1, none⟩ (.slice (some ⟨g', 0, none⟩) (n1 - 1) cv)) ∧ B ≤ (vu1.setCell ⟨g, 1, none⟩ (.slice (some ⟨g', 0, none⟩) (n1 - 1) cv)).heap.size) := by
      have hb := HGE.out
      exact ⟨Below.setCell (p := ⟨g, 1, none⟩) ⟨a1.os, a1.tape, a1.output, a1.size, fun k hk => a1.block k (by omega)⟩ hb.2.2 _, by have := a1.size; simp [World.setCell]; omega⟩
    clear o1 o2 a1 a2 a3 a4 a5 a6 hcur
    go_wp2_with fail
    refine HS.out.mono ?_
    rintro e w5 ⟨rfl, hB5⟩
    have hq := (hB5.block _ (lt_blk HO.out.1)).trans HO.out.1
    have hi := (hB5.block _ (lt_blk HO.out.2)).trans HO.out.2
    have z0 := cell_of_row _ w.heap.size 0 _ _ _ hq
    have z1 := cell_of_row _ w.heap.size 1 _ _ _ hq
    have f0 := frozen_of_row _ w.heap.size 0 _ _ hq
    have f1 := frozen_of_row _ w.heap.size 1 _ _ hq
    have y0 := cell_of_row _ w1.heap.size 0 _ _ _ hi
    have y1 := cell_of_row _ w1.heap.size 1 _ _ _ hi
    have q1 := heap_setCell_same _ _ 1 _ _ (.int .i64 id) (heap_setCell_same _ _ 0 _ _ (.int .i64 key) hq)
    have R := Lib.hid (And.intro (cell_of_row _ w.heap.size 0 _ _ _ q1) (cell_of_row _ w.heap.size 1 _ _ _ q1))
    have FN : Hid (MD B b g 2 (upV vs (.slice (some ⟨g', 0, none⟩) (n1 - 1) cv)) (upL ls l0) ((w5.setCell ⟨w.heap.size, 0, none⟩ (.int .i64 key)).setCell ⟨w.heap.size, 1, none⟩ (.int .i64 id)) ∧ Below B w ((w5.setCell ⟨w.heap.size, 0, none⟩ (.int .i64 key)).setCell ⟨w.heap.size, 1, none⟩ (.int .i64 id))) := by
      have hb := HGE.out
      have k1 : Below B w w5 := ⟨hB5.os.trans BG.out.1.os, hB5.tape.trans BG.out.1.tape, hB5.output.trans BG.out.1.output, Nat.le_trans BG.out.1.size hB5.size, fun k hk => (hB5.block k (by have := BG.out.2; omega)).trans (BG.out.1.block k hk)⟩
      exact ⟨md_far (md_far (HP.out.up hB5) HFR.out hq) HFR.out (heap_setCell_same w5 w.heap.size 0 _ 24 (.int .i64 key) hq), Below.setCell (p := ⟨w.heap.size, 1, none⟩) (Below.setCell (p := ⟨w.heap.size, 0, none⟩) k1 hb.1 _) hb.1 _⟩
    have GG : Hid (w.grownBy ((w5.setCell ⟨w.heap.size, 0, none⟩ (.int .i64 key)).setCell ⟨w.heap.size, 1, none⟩ (.int .i64 id)) (some g)) := by
      have a1 := hBB.out.1
      have hz := a1.size
      have hz5 : vu1.heap.size ≤ w5.heap.size := by have := hB5.size; simpa [World.setCell] using this
      refine ⟨hB5.os.trans a1.os, hB5.tape.trans a1.tape, hB5.output.trans a1.output, by simp [World.setCell]; omega, fun k hk hne => ?_⟩
      have hkg : k ≠ g := fun e => hne (by rw [e])
      rw [heap_setCell_other _ ⟨w.heap.size, 1, none⟩ k _ (by show k ≠ w.heap.size; omega), heap_setCell_other _ ⟨w.heap.size, 0, none⟩ k _ (by show k ≠ w.heap.size; omega), hB5.block k (by simp [World.setCell]; omega), heap_setCell_other _ ⟨g, 1, none⟩ k _ (by show k ≠ g; exact hkg)]
      exact a1.block k hk
    clear HS HO BG hB5 hq hi q1 HP HFR HX HKT
    go_wp2
    obtain ⟨r0, r1⟩ := R.out
    exact bodyPost_ret (v := .tuple #[.agg #[.int .i64 key, .int .i64 id], .bool true]) (by simp [results, Try.results9, go_sem, r0, r1]) rfl ⟨rfl, _, FN.out.1, FN.out.2, GG.out⟩
  · have c5 : vu1.cell? ⟨g, 1, none⟩ = some (.slice (some ⟨g', 0, none⟩) n1 cv) := by rw [HK.out.cells.2 1 (by decide), HV.out]
    clear hHeld
    go_simp
    refine hK.out _ _ HK.out.cells.1 (fun hHeld => ?_)
    clear hK K c5
    refine wpAnyH_take (i := 16) (v := ?vu20) (by rw [List.getElem?_toArray]; rfl) (by kernel_rfl) (by kernel_rfl) (by kernel_rfl) ?ku20 (Or.inl ⟨by rfl, ?yu20⟩) hHeld ?ru20
    case ku20 => exact fun _ _ _ h => h
    case yu20 => (intro wz hSw; clear hSw; go_simp; try (with_reducible rfl))
    simp only [Act.put, List.setIfInBounds_toArray, List.set_cons_zero, List.set_cons_succ]
    refine wpAnyH_take (i := 17) (v := ?vu21) (by rw [List.getElem?_toArray]; rfl) (by kernel_rfl) (by kernel_rfl) (by kernel_rfl) ?ku21 (Or.inl ⟨by rfl, ?yu21⟩) hHeld ?ru21
    case ku21 => exact fun _ _ _ h => h
    case yu21 => (intro wz hSw; clear hSw; go_simp; try (with_reducible rfl))
    simp only [Act.put, List.setIfInBounds_toArray, List.set_cons_zero, List.set_cons_succ]
    refine wpAnyH_ready (rs := [9]) (by kernel_rfl) (by simp) ?_
    refine AllReadyH.cons (by rw [List.getElem?_toArray]; rfl) (fun K hK => ?_) AllReadyH.nil
    have c5 : vu1.cell? ⟨g, 1, none⟩ = some (.slice (some ⟨g', 0, none⟩) n1 cv) := by rw [HK.out.cells.2 1 (by decide), HV.out]
    clear hHeld
    go_simp
    refine hK.out _ _ HK.out.cells.1 (fun hHeld => ?_)
    clear hK K c5
    refine wpAnyH_take (i := 18) (v := ?vu22) (by rw [List.getElem?_toArray]; rfl) (by kernel_rfl) (by kernel_rfl) (by kernel_rfl) ?ku22 (Or.inl ⟨by rfl, ?yu22⟩) hHeld ?ru22
    case ku22 => exact fun _ _ _ h => h
    case yu22 => (intro wz hSw; clear hSw; go_simp; try (with_reducible rfl))
    simp only [Act.put, List.setIfInBounds_toArray, List.set_cons_zero, List.set_cons_succ]
    refine wpAnyH_take (i := 19) (v := ?vu23) (by rw [List.getElem?_toArray]; rfl) (by kernel_rfl) (by kernel_rfl) (by kernel_rfl) ?ku23 (Or.inl ⟨by rfl, ?yu23⟩) hHeld ?ru23
    case ku23 => exact fun _ _ _ h => h
    case yu23 => (intro wz hSw; go_simp; try (with_reducible rfl))
    simp only [Act.put, List.setIfInBounds_toArray, List.set_cons_zero, List.set_cons_succ]
    refine wpAnyH_ready (rs := [20]) (by kernel_rfl) (by simp) ?_
    refine AllReadyH.cons (by rw [List.getElem?_toArray]; rfl) (fun K hK => ?_) AllReadyH.nil
    have c5 : vu1.cell? ⟨g, 1, none⟩ = some (.slice (some ⟨g', 0, none⟩) n1 cv) := by rw [HK.out.cells.2 1 (by decide), HV.out]
    have f5 : vu1.frozen? ⟨g, 1, none⟩ = false := HK.out.frz 1
    have HP := Lib.hid (HX.out _ HK.out)
    clear hHeld HK
    go_simp
    refine hK.out _ _ HP.out.cells.1 (fun hHeld => ?_)
    clear hK K c5 f5 hHeld
    refine wpAnyH_done (by kernel_rfl) ?_ _
    have hcur := HKT.out
    obtain ⟨a1, a2, a3, a4, a5, a6⟩ := hBB.out
    have HS := Lib.hid (sink1 B b g _ _ _ HP.out (show ls 0 = [] from HE.out))
    have o1 := (heap_setCell_other vu1 ⟨g, 1, none⟩ w.heap.size (.slice (some ⟨g', 0, none⟩) (n1 - 1) cv) a5).trans a2
    have o2 := (heap_setCell_other vu1 ⟨g, 1, none⟩ w1.heap.size (.slice (some ⟨g', 0, none⟩) (n1 - 1) cv) a6).trans a3
    have HO := Lib.hid (And.intro o1 o2)
    have BG : Hid (Below B w (vu1.setCell ⟨g, 1, none⟩ (.slice (some ⟨g', 0, none⟩) (n1 - 1) cv)) ∧ B ≤ (vu1.setCell ⟨g, 1, none⟩ (.slice (some ⟨g', 0, none⟩) (n1 - 1) cv)).heap.size) := by
      have hb := HGE.out
      exact ⟨Below.setCell (p := ⟨g, 1, none⟩) ⟨a1.os, a1.tape, a1.output, a1.size, fun k hk => a1.block k (by omega)⟩ hb.2.2 _, by have := a1.size; simp [World.setCell]; omega⟩
    clear o1 o2 a1 a2 a3 a4 a5 a6 hcur
    go_wp2_with fail
    refine HS.out.mono ?_
    rintro e w5 ⟨rfl, hB5⟩
    have hq := (hB5.block _ (lt_blk HO.out.1)).trans HO.out.1
    have hi := (hB5.block _ (lt_blk HO.out.2)).trans HO.out.2
    have z0 := cell_of_row _ w.heap.size 0 _ _ _ hq
    have z1 := cell_of_row _ w.heap.size 1 _ _ _ hq
    have f0 := frozen_of_row _ w.heap.size 0 _ _ hq
    have f1 := frozen_of_row _ w.heap.size 1 _ _ hq
    have y0 := cell_of_row _ w1.heap.size 0 _ _ _ hi
    have y1 := cell_of_row _ w1.heap.size 1 _ _ _ hi
    have q1 := heap_setCell_same _ _ 1 _ _ (.int .i64 id) (heap_setCell_same _ _ 0 _ _ (.int .i64 key) hq)
    have R := Lib.hid (And.intro (cell_of_row _ w.heap.size 0 _ _ _ q1) (cell_of_row _ w.heap.size 1 _ _ _ q1))
    have FN : Hid (MD B b g 2 (upV vs (.slice (some ⟨g', 0, none⟩) (n1 - 1) cv)) (upL ls l0) ((w5.setCell ⟨w.heap.size, 0, none⟩ (.int .i64 key)).setCell ⟨w.heap.size, 1, none⟩ (.int .i64 id)) ∧ Below B w ((w5.setCell ⟨w.heap.size, 0, none⟩ (.int .i64 key)).setCell ⟨w.heap.size, 1, none⟩ (.int .i64 id))) := by
      have hb := HGE.out
      have k1 : Below B w w5 := ⟨hB5.os.trans BG.out.1.os, hB5.tape.trans BG.out.1.tape, hB5.output.trans BG.out.1.output, Nat.le_trans BG.out.1.size hB5.size, fun k hk => (hB5.block k (by have := BG.out.2; omega)).trans (BG.out.1.block k hk)⟩
      exact ⟨md_far (md_far (HP.out.up hB5) HFR.out hq) HFR.out (heap_setCell_same w5 w.heap.size 0 _ 24 (.int .i64 key) hq), Below.setCell (p := ⟨w.heap.size, 1, none⟩) (Below.setCell (p := ⟨w.heap.size, 0, none⟩) k1 hb.1 _) hb.1 _⟩
    have GG : Hid (w.grownBy ((w5.setCell ⟨w.heap.size, 0, none⟩ (.int .i64 key)).setCell ⟨w.heap.size, 1, none⟩ (.int .i64 id)) (some g)) := by
      have a1 := hBB.out.1
      have hz := a1.size
      have hz5 : vu1.heap.size ≤ w5.heap.size := by have := hB5.size; simpa [World.setCell] using this
      refine ⟨hB5.os.trans a1.os, hB5.tape.trans a1.tape, hB5.output.trans a1.output, by simp [World.setCell]; omega, fun k hk hne => ?_⟩
      have hkg : k ≠ g := fun e => hne (by rw [e])
      rw [heap_setCell_other _ ⟨w.heap.size, 1, none⟩ k _ (by show k ≠ w.heap.size; omega), heap_setCell_other _ ⟨w.heap.size, 0, none⟩ k _ (by show k ≠ w.heap.size; omega), hB5.block k (by simp [World.setCell]; omega), heap_setCell_other _ ⟨g, 1, none⟩ k _ (by show k ≠ g; exact hkg)]
      exact a1.block k hk
    clear HS HO BG hB5 hq hi q1 HP HFR HX HKT
    go_wp2
    obtain ⟨r0, r1⟩ := R.out
    exact bodyPost_ret (v := .tuple #[.agg #[.int .i64 key, .int .i64 id], .bool true]) (by simp [results, Try.results9, go_sem, r0, r1]) rfl ⟨rfl, _, FN.out.1, FN.out.2, GG.out⟩
set_option maxHeartbeats 8000000 in
theorem pop_none (B b g : Nat) (vs : Nat → Value) (ls : Nat → List (Int × Int)) (w : World) (h : MD B b g 2 vs ls w) (h1 : ls 1 = []) :
    Calls Try.prog 9 #[.pointer (some ⟨b, 0, none⟩)] w fun e w' => e = .returned (.tuple #[.agg #[.int .i64 0, .int .i64 0], .bool false]) ∧ Below w.heap.size w w' := by
  have hw0 := h.up (bl_al (Below.refl _ _) item0)
  have HM := Lib.hid (min_any B b g 2 (by decide) (by decide) vs ls _ hw0)
  rw [show frst (ls 1) = none from by rw [h1]; rfl] at HM
  have HM2 : Hid (Calls Try.prog 8 #[.pointer (some ⟨b, 0, none⟩)] (w.alloc item0) fun e w' => e = .returned (.tuple #[.agg #[.int .i64 0, .int .i64 0], .bool false]) ∧ Below (w.alloc item0).heap.size (w.alloc item0) w') := HM
  have B0 : Hid (Below w.heap.size w (w.alloc item0)) := bl_al (Below.refl _ _) _
  have Q0 : Hid ((w.alloc item0).heap[w.heap.size]? = some item0 ∧ w.heap.size < (w.alloc item0).heap.size) := ⟨heap_alloc_new w item0, by simp⟩
  unfold item0 at HM2 B0 Q0
  clear h hw0 HM h1
  go_enter Try.func9, Try.ntmps9
  go_wp2_with fail
  refine HM2.out.mono ?_
  rintro e w1 ⟨rfl, hB1⟩
  have z : w.heap.size < w1.heap.size := Nat.lt_of_lt_of_le Q0.out.2 hB1.size
  have hba : Below w.heap.size w (w1.alloc (.cells #[.int .i64 0, .int .i64 0] 24)) := bl_al (bl_tr B0.out hB1) _
  have hqa : (w1.alloc (.cells #[.int .i64 0, .int .i64 0] 24)).heap[w.heap.size]? = some (.cells #[.int .i64 0, .int .i64 0] 24 (0, 0)) := (Below.heap_alloc w1 _ _ z).trans ((hB1.block _ Q0.out.2).trans Q0.out.1)
  have z0 := cell_of_row _ w.heap.size 0 _ _ _ hqa
  have z1 := cell_of_row _ w.heap.size 1 _ _ _ hqa
  have f0 := frozen_of_row _ w.heap.size 0 _ _ hqa
  have f1 := frozen_of_row _ w.heap.size 1 _ _ hqa
  have hia := heap_alloc_new w1 (.cells #[.int .i64 0, .int .i64 0] 24)
  have y0 := cell_of_row _ w1.heap.size 0 _ _ _ hia
  have y1 := cell_of_row _ w1.heap.size 1 _ _ _ hia
  have q1 := heap_setCell_same _ _ 1 _ _ (.int .i64 0) (heap_setCell_same _ _ 0 _ _ (.int .i64 0) hqa)
  have R := Lib.hid (And.intro (cell_of_row _ w.heap.size 0 _ _ _ q1) (cell_of_row _ w.heap.size 1 _ _ _ q1))
  have FN : Hid (Below w.heap.size w (((w1.alloc (.cells #[.int .i64 0, .int .i64 0] 24)).setCell ⟨w.heap.size, 0, none⟩ (.int .i64 0)).setCell ⟨w.heap.size, 1, none⟩ (.int .i64 0))) := Below.setCell (p := ⟨w.heap.size, 1, none⟩) (Below.setCell (p := ⟨w.heap.size, 0, none⟩) hba (Nat.le_refl _) _) (Nat.le_refl _) _
  clear HM2 hB1 B0 Q0 z hba hqa hia q1
  go_wp2
  obtain ⟨r0, r1⟩ := R.out
  exact bodyPost_ret (v := .tuple #[.agg #[.int .i64 0, .int .i64 0], .bool false]) (by simp [results, Try.results9, go_sem, r0, r1]) rfl ⟨rfl, FN.out⟩
end Go.Proofs.Ytiiclonklihaiaa

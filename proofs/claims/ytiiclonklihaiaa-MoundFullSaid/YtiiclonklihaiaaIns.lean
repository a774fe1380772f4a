/-
  Insert with no draws, where there are two places.
-/
import Derived.Test.YtiiclonklihaiaaNew
import Derived.IntWalk
namespace Go.Proofs.Ytiiclonklihaiaa
open Go.RowKit
set_option linter.unusedVariables false
set_option maxRecDepth 100000 in
set_option maxHeartbeats 2000000 in
theorem len64_0 (w : World) : Calls Try.prog 37 #[.int .u64 0] w fun e w' => e = .returned (.int .i64 0) ∧ w = w' := by
  go_enter Try.func37, Try.ntmps37
  go_wp2
  go_ret
  exact ⟨congrArg (fun z => Ending.returned (Value.int .i64 z)) (by decide +kernel), rfl⟩
set_option maxHeartbeats 2000000 in
theorem len_0 (w : World) : Calls Try.prog 24 #[.int .u64 0] w fun e w' => e = .returned (.int .i64 0) ∧ w = w' := by
  go_enter Try.func24, Try.ntmps24
  go_wp2_with fail
  refine (len64_0 _).mono ?_
  rintro e w1 ⟨rfl, rfl⟩
  go_wp2
  go_ret
  exact ⟨rfl, rfl⟩
set_option maxRecDepth 100000 in
set_option maxHeartbeats 2000000 in
theorem len64_1 (w : World) : Calls Try.prog 37 #[.int .u64 1] w fun e w' => e = .returned (.int .i64 1) ∧ w = w' := by
  go_enter Try.func37, Try.ntmps37
  go_wp2
  go_ret
  exact ⟨congrArg (fun z => Ending.returned (Value.int .i64 z)) (by decide +kernel), rfl⟩
set_option maxHeartbeats 2000000 in
theorem len_1 (w : World) : Calls Try.prog 24 #[.int .u64 1] w fun e w' => e = .returned (.int .i64 1) ∧ w = w' := by
  go_enter Try.func24, Try.ntmps24
  go_wp2_with fail
  refine (len64_1 _).mono ?_
  rintro e w1 ⟨rfl, rfl⟩
  go_wp2
  go_ret
  exact ⟨rfl, rfl⟩
/-- what the region of the append holds: the mound's box, the item's -/
def SI (b g ib : Nat) (key id : Int) (w : World) : Prop := w.cell? ⟨b, 0, none⟩ = some (.slice (some ⟨g, 0, none⟩) 2 2) ∧ w.cell? ⟨ib, 0, none⟩ = some (.int .i64 key) ∧ w.cell? ⟨ib, 1, none⟩ = some (.int .i64 id)
def upV (vs : Nat → Value) (v : Value) (p : Nat) : Value := if p = 1 then v else vs p
def upL (ls : Nat → List (Int × Int)) (l : List (Int × Int)) (p : Nat) : List (Int × Int) := if p = 1 then l else ls p
structure IK (vb : Option Nat) (B b g ib : Nat) (key id : Int) (vs : Nat → Value) (ls : Nat → List (Int × Int)) (w0 w : World) : Prop where
  fr : ∀ k, k < w0.heap.size → k ≠ g → some k ≠ vb → w.heap[k]? = w0.heap[k]?
  s0 : w0.heap.size ≤ w.heap.size
  md : MD B b g 2 vs ls w
  it : w.heap[ib]? = some (.cells #[.int .i64 key, .int .i64 id] 24 (0, 0))
  far : ∀ p, p < 2 → (vs p).ownBlock ≠ some ib
  bel : Below B w0 w
  sz : B ≤ w.heap.size
  ge : B ≤ b ∧ B ≤ g
theorem IK.s {vb : Option Nat} {B b g ib : Nat} {key id : Int} {vs : Nat → Value} {ls : Nat → List (Int × Int)} {w0 w : World} (h : IK vb B b g ib key id vs ls w0 w) : SI b g ib key id w := ⟨h.md.cells.1, cell_of_row _ _ 0 _ _ _ h.it, cell_of_row _ _ 1 _ _ _ h.it⟩
theorem IK.drew {vb : Option Nat} {B b g ib : Nat} {key id : Int} {vs : Nat → Value} {ls : Nat → List (Int × Int)} {w0 w : World} (h : IK vb B b g ib key id vs ls w0 w) : IK vb B b g ib key id vs ls w0 w.drew :=
  ⟨h.fr, h.s0, ⟨h.md.box, h.md.top, h.md.rows, h.md.ap, h.md.len⟩, h.it, h.far, ⟨h.bel.os, h.bel.tape, h.bel.output, h.bel.size, h.bel.block⟩, h.sz, h.ge⟩
theorem IK.alloc {vb : Option Nat} {B b g ib : Nat} {key id : Int} {vs : Nat → Value} {ls : Nat → List (Int × Int)} {w0 w : World} (h : IK vb B b g ib key id vs ls w0 w) (o : Obj) : IK vb B b g ib key id vs ls w0 (w.alloc o) :=
  ⟨fun k hk h1 h2 => (Below.heap_alloc w o k (Nat.lt_of_lt_of_le hk h.s0)).trans (h.fr k hk h1 h2), by have := h.s0; simp; omega, h.md.up (bl_al (Below.refl _ _) o), (Below.heap_alloc w o _ (lt_blk h.it)).trans h.it, h.far, h.bel.alloc h.sz o, by have := h.sz; simp; omega, h.ge⟩
/-- behind the append, ahead of the store -/
structure IA (vb : Option Nat) (B b g ib : Nat) (key id : Int) (vs : Nat → Value) (ls : Nat → List (Int × Int)) (v : Value) (w0 w : World) : Prop where
  fr : ∀ k, k < w0.heap.size → k ≠ g → some k ≠ vb → w.heap[k]? = w0.heap[k]?
  s0 : w0.heap.size ≤ w.heap.size
  box : w.heap[b]? = some (.cells #[.slice (some ⟨g, 0, none⟩) 2 2] 56 (0, 0))
  top : ∃ cur : Array Value, w.heap[g]? = some (.cells cur 50 (0, 0)) ∧ ∀ p, p < 2 → cur[p]? = some (vs p)
  r0 : w.ownsRow B 24 2 (vs 0) (ls 0).length (encI (ls 0))
  r1 : w.ownsRow B 24 2 v ((ls 1).length + 1) (encI (ls 1 ++ [(key, id)]))
  ap : ∀ x, (vs 0).ownBlock = some x → v.ownBlock ≠ some x
  it : w.heap[ib]? = some (.cells #[.int .i64 key, .int .i64 id] 24 (0, 0))
  far : ∀ p, p < 2 → (vs p).ownBlock ≠ some ib
  farv : v.ownBlock ≠ some ib
  bel : Below B w0 w
  sz : B ≤ w.heap.size
  ge : B ≤ b ∧ B ≤ g
  len : ∀ p, p < 2 → (ls p).length ≤ 900
theorem IA.s {vb : Option Nat} {B b g ib : Nat} {key id : Int} {vs : Nat → Value} {ls : Nat → List (Int × Int)} {v : Value} {w0 w : World} (h : IA vb B b g ib key id vs ls v w0 w) : SI b g ib key id w := ⟨cell_of_row _ _ 0 _ _ _ h.box, cell_of_row _ _ 0 _ _ _ h.it, cell_of_row _ _ 1 _ _ _ h.it⟩
theorem IA.old {vb : Option Nat} {B b g ib : Nat} {key id : Int} {vs : Nat → Value} {ls : Nat → List (Int × Int)} {v : Value} {w0 w : World} (h : IA vb B b g ib key id vs ls v w0 w) : w.cell? ⟨g, 1, none⟩ = some (vs 1) ∧ w.frozen? ⟨g, 1, none⟩ = false := by
  obtain ⟨cur, hg, hc⟩ := h.top
  exact ⟨by rw [cell_of_row _ _ _ _ _ _ hg]; exact hc 1 (by decide), frozen_of_row _ _ _ _ _ hg⟩
theorem row_kindE {w : World} {B n size : Nat} {e : TypeId} {v : Value} {xs : List Value} (h : w.ownsRow B e size v n xs) {x : Nat} (hx : v.ownBlock = some x) : ∃ cur, w.heap[x]? = some (.cells cur e (0, 0)) := by
  rcases h.2 with ⟨rfl, _⟩ | ⟨g, cap, cur, rfl, _, hg, _⟩
  · cases hx
  · injection hx with hx
    subst hx
    exact ⟨cur, hg⟩
theorem row_neE {w : World} {B n b size : Nat} {e : TypeId} {v : Value} {xs : List Value} {cs : Array Value} {t : TypeId} (h : w.ownsRow B e size v n xs) (hb : w.heap[b]? = some (.cells cs t (0, 0))) (ht : t ≠ e) : v.ownBlock ≠ some b := fun q => by
  obtain ⟨cur, hc⟩ := row_kindE h q
  rw [hb] at hc
  injection hc with hc
  injection hc with _ hc
  exact ht hc
theorem IK.app {vb : Option Nat} {B b g ib n cap g' : Nat} {key id : Int} {vs : Nat → Value} {ls : Nat → List (Int × Int)} {w0 w w1 : World} {av : Option Addr} {cv : Nat} (h : IK vb B b g ib key id vs ls w0 w) (hvb : (vs 1).ownBlock = vb) (hv : vs 1 = .slice av n cv ∧ n = (ls 1).length ∧ n ≤ 900 ∧ (ls 0).length ≤ 900)
    (hown : w1.ownsRow B 24 2 (.slice (some ⟨g', 0, none⟩) (n + 1) cap) (n + 1) (encI (ls 1) ++ [.int .i64 key, .int .i64 id])) (hg : w.grownBy w1 (Value.slice av n cv).ownBlock) (hl : (Value.slice av n cv).ownBlock = some g' ∨ g' = w.heap.size) : IA vb B b g ib key id vs ls (.slice (some ⟨g', 0, none⟩) (n + 1) cap) w0 w1 := by
  obtain ⟨h1, h2, h3, h4⟩ := hv
  rw [← h1] at hg hl
  obtain ⟨cur, ht, hc⟩ := h.md.top
  have r1 := h.md.rows 1 (by decide)
  have r0 := h.md.rows 0 (by decide)
  have hlt := lt_blk h.it
  refine ⟨fun k hk k1 k2 => (hg.block k (Nat.lt_of_lt_of_le hk h.s0) (fun e => k2 (by rw [e, hvb]))).trans (h.fr k hk k1 k2), Nat.le_trans h.s0 hg.size, (hg.block b (lt_blk h.md.box) (fun e => row_neE r1 h.md.box (by decide) e.symm)).trans h.md.box, ⟨cur, (hg.block g (lt_blk ht) (fun e => row_neE r1 ht (by decide) e.symm)).trans ht, hc⟩, ?_, ?_, ?_, (hg.block ib hlt (fun e => h.far 1 (by decide) e.symm)).trans h.it, h.far, ?_, ?_, Nat.le_trans h.sz hg.size, h.ge, fun p hp => by rcases (show p = 0 ∨ p = 1 by omega) with rfl | rfl <;> omega⟩
  · refine r0.kept hg ?_
    cases e : (vs 0).ownBlock with
    | none => exact .inl rfl
    | some x => exact .inr (fun q => h.md.ap 0 1 x (by decide) (by decide) (by decide) e q.symm)
  · rw [encI_app, ← h2]; exact hown
  · intro x hx e
    injection e with e
    have e : g' = x := e
    rcases hl with hl | hl
    · exact h.md.ap 0 1 x (by decide) (by decide) (by decide) hx (by rw [hl, e])
    · have := (r0.lt x hx).2
      omega
  · intro e
    injection e with e
    have e : g' = ib := e
    rcases hl with hl | hl
    · exact h.far 1 (by decide) (by rw [hl, e])
    · omega
  · exact ⟨hg.os.trans h.bel.os, hg.tape.trans h.bel.tape, hg.output.trans h.bel.output, Nat.le_trans h.bel.size hg.size, fun k hk => by
      have hz := h.sz
      exact (hg.block k (by omega) (fun e => by have := (r1.lt k e.symm).1; omega)).trans (h.bel.block k hk)⟩
theorem IA.put {vb : Option Nat} {B b g ib : Nat} {key id : Int} {vs : Nat → Value} {ls : Nat → List (Int × Int)} {v : Value} {w0 w : World} (h : IA vb B b g ib key id vs ls v w0 w) : IK vb B b g ib key id (upV vs v) (upL ls (ls 1 ++ [(key, id)])) w0 (w.setCell ⟨g, 1, none⟩ v) := by
  obtain ⟨cur, ht, hc⟩ := h.top
  have hgb : b ≠ g := fun e => by
    have h1 := h.box
    rw [e, ht] at h1
    injection h1 with h1
    injection h1 with _ h1
    exact absurd h1 (by decide)
  have hgi : ib ≠ g := fun e => by
    have h1 := h.it
    rw [e, ht] at h1
    injection h1 with h1
    injection h1 with _ h1
    exact absurd h1 (by decide)
  have kp : ∀ {u : Value} {k : Nat} {xs : List Value}, w.ownsRow B 24 2 u k xs → (w.setCell ⟨g, 1, none⟩ v).ownsRow B 24 2 u k xs := fun hu => ownsRow_setCell_other (a := ⟨g, 1, none⟩) hu (row_neE hu ht (by decide)) v
  refine ⟨fun k hk k1 k2 => (heap_setCell_other w ⟨g, 1, none⟩ k v (by show k ≠ g; exact k1)).trans (h.fr k hk k1 k2), by simpa [World.setCell] using h.s0, ⟨(heap_setCell_other w ⟨g, 1, none⟩ b v hgb).trans h.box, ⟨_, heap_setCell_same w g 1 cur 50 v ht, fun p hp => ?_⟩, fun p hp => ?_, fun p q x hp hq hne hx => ?_, fun p hp => ?_⟩, (heap_setCell_other w ⟨g, 1, none⟩ ib v hgi).trans h.it, fun p hp => ?_, Below.setCell (p := ⟨g, 1, none⟩) h.bel h.ge.2 v, by simpa [World.setCell] using h.sz, h.ge⟩
  · rcases (show p = 0 ∨ p = 1 by omega) with rfl | rfl
    · have := hc 0 (by decide)
      simp [upV, this]
    · have := hc 1 (by decide)
      have hs : 1 < cur.size := by rcases Nat.lt_or_ge 1 cur.size with q | q; exact q; rw [Array.getElem?_eq_none q] at this; cases this
      simp [upV, hs]
  · rcases (show p = 0 ∨ p = 1 by omega) with rfl | rfl
    · exact kp h.r0
    · show (w.setCell ⟨g, 1, none⟩ v).ownsRow B 24 2 v (ls 1 ++ [(key, id)]).length _
      rw [List.length_append]; exact kp h.r1
  · rcases (show p = 0 ∨ p = 1 by omega) with rfl | rfl <;> rcases (show q = 0 ∨ q = 1 by omega) with rfl | rfl
    · omega
    · exact h.ap x hx
    · exact fun e => h.ap x e hx
    · omega
  · have h0 := h.len 0 (by decide)
    have h1 := h.len 1 (by decide)
    rcases (show p = 0 ∨ p = 1 by omega) with rfl | rfl
    · show (ls 0).length ≤ 1000; omega
    · show (ls 1 ++ [(key, id)]).length ≤ 1000; simp; omega
  · rcases (show p = 0 ∨ p = 1 by omega) with rfl | rfl
    · exact h.far 0 (by decide)
    · exact h.farv
set_option maxRecDepth 100000 in
set_option maxHeartbeats 8000000 in
/-- an item that is not taken -/
theorem ins_no (B b g : Nat) (key id : Int) (vs : Nat → Value) (ls : Nat → List (Int × Int)) (w : World) (h : MD B b g 2 vs ls w) (ht : tkv (frst (ls 1)) key = false) :
    Calls Try.prog 12 #[.pointer (some ⟨b, 0, none⟩), .agg #[.int .i64 key, .int .i64 id], .slice none 0 0] w fun e w' => e = .returned (.bool false) ∧ Below w.heap.size w w' := by
  have h0 := h.up (bl_al (Below.refl _ _) (.cells #[.int .i64 key, .int .i64 id] 24))
  have HL := Lib.hid (leaf1 B b g vs ls key _ h0)
  rw [ht] at HL
  have B0 : Hid (Below w.heap.size w (w.alloc (.cells #[.int .i64 key, .int .i64 id] 24))) := bl_al (Below.refl _ _) _
  clear h h0 ht
  go_enter Try.func12, Try.ntmps12
  go_wp2_with fail
  refine HL.out.mono ?_
  rintro e w1 ⟨rfl, hB⟩
  have B1 := Lib.hid (bl_tr B0.out hB)
  simp only [Bool.false_eq_true, if_false]
  clear HL B0 hB
  go_wp2_with fail
  refine (len_0 _).mono ?_
  rintro e w2 ⟨rfl, rfl⟩
  go_wp2
  go_loopw [8] (fun i wr => i = .int .i64 (-1) ∧ wr = w1) (fun _ _ => 0)
  case atStart => exact ⟨by go_num, rfl⟩
  case round =>
    obtain ⟨rfl, rfl⟩ := hrel
    go_wp2
    go_ret
    exact ⟨rfl, B1.out⟩
set_option maxRecDepth 100000 in
set_option maxHeartbeats 8000000 in
/-- an item that is taken -/
theorem ins_yes (B b g : Nat) (key id : Int) (vs : Nat → Value) (ls : Nat → List (Int × Int)) (w : World) (h : MD B b g 2 vs ls w) (hB : B ≤ w.heap.size) (hge : B ≤ b ∧ B ≤ g) (l0 : (ls 0).length ≤ 900) (l1 : (ls 1).length ≤ 900) (ht : tkv (frst (ls 1)) key = true) :
    Calls Try.prog 12 #[.pointer (some ⟨b, 0, none⟩), .agg #[.int .i64 key, .int .i64 id], .slice none 0 0] w fun e w' => e = .returned (.bool true) ∧ ∃ v, MD B b g 2 (upV vs v) (upL ls (ls 1 ++ [(key, id)])) w' ∧ Below B w w' ∧ ∀ k, k < w.heap.size → k ≠ g → some k ≠ (vs 1).ownBlock → w'.heap[k]? = w.heap[k]? := by
  obtain ⟨i24, hi24, hy0, hy1, hy2⟩ := info_parts info24
  have h0 := h.up (bl_al (Below.refl _ _) (.cells #[.int .i64 key, .int .i64 id] 24))
  have HL := Lib.hid (leaf1 B b g vs ls key _ h0)
  have HT : Hid (∀ W, Below w.heap.size w W → Calls Try.prog 25 #[.pointer (some ⟨b, 0, none⟩), .int .i64 1, .int .i64 key] W fun e w' => e = .returned (.bool true) ∧ Below W.heap.size W w') := fun W hW => by
    have := takes_any B b g 2 vs ls 1 (by decide) key W (h.up hW)
    rw [ht] at this
    exact this
  rw [ht] at HL
  have hr1 := h.rows 1 (by decide)
  obtain ⟨av, cv, hv⟩ := own_slice hr1
  obtain ⟨n, hn⟩ : ∃ n, n = (ls 1).length := ⟨_, rfl⟩
  rw [← hn] at hv
  have HV : Hid (vs 1 = .slice av n cv ∧ n = (ls 1).length ∧ n ≤ 900 ∧ (ls 0).length ≤ 900) := ⟨hv, hn, by omega, l0⟩
  have hn9 : n ≤ 900 := by omega
  have K0 : Hid (∀ W, Below (w.alloc (.cells #[.int .i64 key, .int .i64 id] 24)).heap.size (w.alloc (.cells #[.int .i64 key, .int .i64 id] 24)) W → IK (vs 1).ownBlock B b g w.heap.size key id vs ls w W) := fun W hW => by
    have k := bl_tr (bl_al (Below.refl w.heap.size w) (.cells #[.int .i64 key, .int .i64 id] 24)) hW
    refine ⟨fun i hi _ _ => k.block i hi, k.size, h.up k, (hW.block _ (by simp)).trans (heap_alloc_new w _), fun p hp e => by have := ((h.rows p hp).lt _ e).2; omega, ⟨k.os, k.tape, k.output, k.size, fun i hi => k.block i (by omega)⟩, Nat.le_trans hB k.size, hge⟩
  have HR : Hid (∀ W, IK (vs 1).ownBlock B b g w.heap.size key id vs ls w W → W.ownsRow B 24 2 (.slice av n cv) n (encI (ls 1))) := fun W hW => by
    have := hW.md.rows 1 (by decide)
    rw [HV.out.1] at this
    rw [HV.out.2.1]
    rw [HV.out.2.1] at this
    exact this
  have HF : Hid (∀ v (W : World), True → IK (vs 1).ownBlock B b g w.heap.size key id (upV vs v) (upL ls (ls 1 ++ [(key, id)])) w W → ∃ v, MD B b g 2 (upV vs v) (upL ls (ls 1 ++ [(key, id)])) W ∧ Below B w W ∧ ∀ k, k < w.heap.size → k ≠ g → some k ≠ (vs 1).ownBlock → W.heap[k]? = w.heap[k]?) := fun v W _ hW => ⟨v, hW.md, hW.bel, hW.fr⟩
  have B0 : Hid (Below w.heap.size w (w.alloc (.cells #[.int .i64 key, .int .i64 id] 24))) := bl_al (Below.refl _ _) _
  have Q0 : Hid ((w.alloc (.cells #[.int .i64 key, .int .i64 id] 24)).heap[w.heap.size]? = some (.cells #[.int .i64 key, .int .i64 id] 24 (0, 0)) ∧ w.heap.size < (w.alloc (.cells #[.int .i64 key, .int .i64 id] 24)).heap.size) := ⟨heap_alloc_new w _, by simp⟩
  clear h h0 ht hr1 hv hn l0 l1 hB hge
  go_enter Try.func12, Try.ntmps12
  go_wp2_with fail
  refine HL.out.mono ?_
  rintro e w1 ⟨rfl, hB⟩
  simp only [if_true]
  have B1 : Hid (Below (w.alloc (.cells #[.int .i64 key, .int .i64 id] 24)).heap.size (w.alloc (.cells #[.int .i64 key, .int .i64 id] 24)) w1) := hB
  have c0 : w1.cell? ⟨w.heap.size, 0, none⟩ = some (.int .i64 key) := cell_of_row _ _ 0 _ _ _ ((hB.block _ Q0.out.2).trans Q0.out.1)
  clear HL hB
  go_wp2_with fail
  refine (len_1 _).mono ?_
  rintro e w2 ⟨rfl, rfl⟩
  go_wp2
  go_loopw [8] (fun i wr => i = .int .i64 0 ∧ wr = w1) (fun _ _ => 0)
  case atStart => exact ⟨by go_num, rfl⟩
  case round =>
    obtain ⟨rfl, rfl⟩ := hrel
    have HT2 := Lib.hid (HT.out wr (bl_tr B0.out B1.out))
    go_wp2_with fail
    refine HT2.out.mono ?_
    rintro e w3 ⟨rfl, hB3⟩
    have HK := Lib.hid (K0.out w3 (bl_tr B1.out hB3))
    clear HT HT2 B1 hB3 B0 Q0 K0 c0
    go_wp2
    refine wp_region_held_drew (S := SI b g w.heap.size key id) (by kernel_rfl) HK.out.drew.s (fun hHeld => ?_)
    have HKd := Lib.hid HK.out.drew
    clear HK
    have HK := HKd
    clear HKd
    generalize World.drew _ = vu1 at *
    refine wpAnyH_take (i := 0) (v := ?vu2) (by rw [List.getElem?_toArray]; rfl) (by kernel_rfl) (by kernel_rfl) (by kernel_rfl) ?ku2 (Or.inl ⟨by rfl, ?yu2⟩) hHeld ?ru2
    case ku2 => exact fun _ _ _ h => h
    case yu2 => (intro wz hSw; obtain ⟨s0, s1, s2⟩ := hSw; go_simp; try (with_reducible rfl))
    simp only [Act.put, List.setIfInBounds_toArray, List.set_cons_zero, List.set_cons_succ]
    refine wpAnyH_take (i := 1) (v := ?vu3) (by rw [List.getElem?_toArray]; rfl) (by kernel_rfl) (by kernel_rfl) (by kernel_rfl) ?ku3 (Or.inl ⟨by rfl, ?yu3⟩) hHeld ?ru3
    case ku3 => exact fun _ _ _ h => h
    case yu3 => (intro wz hSw; obtain ⟨s0, s1, s2⟩ := hSw; go_simp; try (with_reducible rfl))
    simp only [Act.put, List.setIfInBounds_toArray, List.set_cons_zero, List.set_cons_succ]
    refine wpAnyH_take (i := 2) (v := ?vu4) (by rw [List.getElem?_toArray]; rfl) (by kernel_rfl) (by kernel_rfl) (by kernel_rfl) ?ku4 (Or.inl ⟨by rfl, ?yu4⟩) hHeld ?ru4
    case ku4 => exact fun _ _ _ h => h
    case yu4 => (intro wz hSw; obtain ⟨s0, s1, s2⟩ := hSw; go_simp; try (with_reducible rfl))
    simp only [Act.put, List.setIfInBounds_toArray, List.set_cons_zero, List.set_cons_succ]
    refine wpAnyH_take (i := 3) (v := ?vu5) (by rw [List.getElem?_toArray]; rfl) (by kernel_rfl) (by kernel_rfl) (by kernel_rfl) ?ku5 (Or.inl ⟨by rfl, ?yu5⟩) hHeld ?ru5
    case ku5 => exact fun _ _ _ h => h
    case yu5 => (intro wz hSw; obtain ⟨s0, s1, s2⟩ := hSw; go_simp; try (with_reducible rfl))
    simp only [Act.put, List.setIfInBounds_toArray, List.set_cons_zero, List.set_cons_succ]
    refine wpAnyH_take (i := 4) (v := ?vu6) (by rw [List.getElem?_toArray]; rfl) (by kernel_rfl) (by kernel_rfl) (by kernel_rfl) ?ku6 (Or.inl ⟨by rfl, ?yu6⟩) hHeld ?ru6
    case ku6 => exact fun _ _ _ h => h
    case yu6 => (intro wz hSw; obtain ⟨s0, s1, s2⟩ := hSw; go_simp; try (with_reducible rfl))
    simp only [Act.put, List.setIfInBounds_toArray, List.set_cons_zero, List.set_cons_succ]
    refine wpAnyH_take (i := 5) (v := ?vu7) (by rw [List.getElem?_toArray]; rfl) (by kernel_rfl) (by kernel_rfl) (by kernel_rfl) ?ku7 (Or.inl ⟨by rfl, ?yu7⟩) hHeld ?ru7
    case ku7 => exact fun _ _ _ h => h
    case yu7 => (intro wz hSw; obtain ⟨s0, s1, s2⟩ := hSw; go_simp; try (with_reducible rfl))
    simp only [Act.put, List.setIfInBounds_toArray, List.set_cons_zero, List.set_cons_succ]
    refine wpAnyH_take (i := 6) (v := ?vu8) (by rw [List.getElem?_toArray]; rfl) (by kernel_rfl) (by kernel_rfl) (by kernel_rfl) ?ku8 (Or.inl ⟨by rfl, ?yu8⟩) hHeld ?ru8
    case ku8 => exact fun _ _ _ h => h
    case yu8 => (intro wz hSw; obtain ⟨s0, s1, s2⟩ := hSw; go_simp; try (with_reducible rfl))
    simp only [Act.put, List.setIfInBounds_toArray, List.set_cons_zero, List.set_cons_succ]
    refine wpAnyH_take (i := 7) (v := ?vu9) (by rw [List.getElem?_toArray]; rfl) (by kernel_rfl) (by kernel_rfl) (by kernel_rfl) ?ku9 (Or.inl ⟨by rfl, ?yu9⟩) hHeld ?ru9
    case ku9 => exact fun _ _ _ h => h
    case yu9 => (intro wz hSw; obtain ⟨s0, s1, s2⟩ := hSw; go_simp; try (with_reducible rfl))
    simp only [Act.put, List.setIfInBounds_toArray, List.set_cons_zero, List.set_cons_succ]
    refine wpAnyH_take (i := 8) (v := ?vu10) (by rw [List.getElem?_toArray]; rfl) (by kernel_rfl) (by kernel_rfl) (by kernel_rfl) ?ku10 (Or.inl ⟨by rfl, ?yu10⟩) hHeld ?ru10
    case ku10 => exact fun _ _ _ h => h
    case yu10 => (intro wz hSw; obtain ⟨s0, s1, s2⟩ := hSw; go_simp; try (with_reducible rfl))
    simp only [Act.put, List.setIfInBounds_toArray, List.set_cons_zero, List.set_cons_succ]
    refine wpAnyH_take (i := 9) (v := ?vu11) (by rw [List.getElem?_toArray]; rfl) (by kernel_rfl) (by kernel_rfl) (by kernel_rfl) ?ku11 (Or.inl ⟨by rfl, ?yu11⟩) hHeld ?ru11
    case ku11 => exact fun _ _ _ h => h
    case yu11 => (intro wz hSw; obtain ⟨s0, s1, s2⟩ := hSw; go_simp; try (with_reducible rfl))
    simp only [Act.put, List.setIfInBounds_toArray, List.set_cons_zero, List.set_cons_succ]
    refine wpAnyH_take (i := 10) (v := ?vu12) (by rw [List.getElem?_toArray]; rfl) (by kernel_rfl) (by kernel_rfl) (by kernel_rfl) ?ku12 (Or.inl ⟨by rfl, ?yu12⟩) hHeld ?ru12
    case ku12 => exact fun _ _ _ h => h
    case yu12 => (intro wz hSw; obtain ⟨s0, s1, s2⟩ := hSw; go_simp; try (with_reducible rfl))
    simp only [Act.put, List.setIfInBounds_toArray, List.set_cons_zero, List.set_cons_succ]
    refine wpAnyH_take (i := 12) (v := ?vu13) (by rw [List.getElem?_toArray]; rfl) (by kernel_rfl) (by kernel_rfl) (by kernel_rfl) ?ku13 (Or.inl ⟨by rfl, ?yu13⟩) hHeld ?ru13
    case ku13 => exact fun _ _ _ h => h
    case yu13 => (intro wz hSw; obtain ⟨s0, s1, s2⟩ := hSw; go_simp; try (with_reducible rfl))
    simp only [Act.put, List.setIfInBounds_toArray, List.set_cons_zero, List.set_cons_succ]
    refine wpAnyH_ready (rs := [11, 13]) (by kernel_rfl) (by simp) ?_
    refine AllReadyH.cons (by rw [List.getElem?_toArray]; rfl) (fun K hK => ?_) (AllReadyH.cons (by rw [List.getElem?_toArray]; rfl) (fun K hK => ?_) AllReadyH.nil)
    · have c5 : vu1.cell? ⟨g, 1, none⟩ = some (.slice av n cv) := by rw [HK.out.md.cells.2 1 (by decide), HV.out.1]
      clear hHeld
      go_simp
      refine hK.out _ _ HK.out.s (fun hHeld => ?_)
      clear hK K c5
      refine wpAnyH_ready (rs := [13]) (by kernel_rfl) (by simp) ?_
      refine AllReadyH.cons (by rw [List.getElem?_toArray]; rfl) (fun K hK => ?_) AllReadyH.nil
      clear hHeld
      go_simp
      have hcn := Lib.hid (heap_alloc_new vu1 (.cells #[.int .i64 key, .int .i64 id] 24))
      have HKd := Lib.hid (HK.out.alloc (.cells #[.int .i64 key, .int .i64 id] 24))
      clear HK
      have HK := HKd
      clear HKd
      refine hK.out _ _ HK.out.s (fun hHeld => ?_)
      clear hK K
      generalize (vu1.alloc (.cells #[.int .i64 key, .int .i64 id] 24)) = vu14 at *
      generalize vu1.heap.size = p13 at *
      refine wpAnyH_ready (rs := [14]) (by kernel_rfl) (by simp) ?_
      refine AllReadyH.cons (by rw [List.getElem?_toArray]; rfl) (fun K hK => ?_) AllReadyH.nil
      clear hHeld
      rw [if_pos (by rfl)]
      refine wp_append_lies _ _ _ 50 rfl B 24 i24 (.agg #[.int .i64 0, .int .i64 0]) 2 16 Try.underlying50 hi24 hy0 hy1 hy2 rfl (by decide) (.slice av n cv) n _ rfl (HR.out _ HK.out) ⟨p13, 0, none⟩ 1 1 [.int .i64 key, .int .i64 id] rfl rfl (World.news_of_block (cs := #[.int .i64 key, .int .i64 id]) hcn.out) (by simp [Value.oneCell']) (by decide) (by unfold maxLen; omega) (by omega) HK.out.sz _ rfl ?_
      intro g5 cap5 w5 hown5 hgrow5 hl5 hlt5
      have HN := Lib.hid (HK.out.app rfl HV.out hown5 hgrow5 hl5)
      clear HK hown5 hgrow5 hl5 hlt5 hcn
      refine hK.out _ _ HN.out.s (fun hHeld => ?_)
      clear hK K
      refine wpAnyH_take (i := 15) (v := ?vu15) (by rw [List.getElem?_toArray]; rfl) (by kernel_rfl) (by kernel_rfl) (by kernel_rfl) ?ku15 (Or.inl ⟨by rfl, ?yu15⟩) hHeld ?ru15
      case ku15 => exact fun _ _ _ h => h
      case yu15 => (intro wz hSw; obtain ⟨s0, s1, s2⟩ := hSw; go_simp; try (with_reducible rfl))
      simp only [Act.put, List.setIfInBounds_toArray, List.set_cons_zero, List.set_cons_succ]
      refine wpAnyH_ready (rs := [16]) (by kernel_rfl) (by simp) ?_
      refine AllReadyH.cons (by rw [List.getElem?_toArray]; rfl) (fun K hK => ?_) AllReadyH.nil
      obtain ⟨c5, f5⟩ := HN.out.old
      have HP := Lib.hid HN.out.put
      clear hHeld HN
      go_simp
      refine hK.out _ _ HP.out.s (fun hHeld => ?_)
      clear hK K c5 f5 hHeld
      refine wpAnyH_done (by kernel_rfl) ?_ _
      have FN := Lib.hid (HF.out _ _ trivial HP.out)
      clear HP HF
      go_wp2
      go_ret
      exact ⟨rfl, FN.out⟩
    · clear hHeld
      go_simp
      have hcn := Lib.hid (heap_alloc_new vu1 (.cells #[.int .i64 key, .int .i64 id] 24))
      have HKd := Lib.hid (HK.out.alloc (.cells #[.int .i64 key, .int .i64 id] 24))
      clear HK
      have HK := HKd
      clear HKd
      refine hK.out _ _ HK.out.s (fun hHeld => ?_)
      clear hK K
      generalize (vu1.alloc (.cells #[.int .i64 key, .int .i64 id] 24)) = vu16 at *
      generalize vu1.heap.size = p13 at *
      refine wpAnyH_ready (rs := [11]) (by kernel_rfl) (by simp) ?_
      refine AllReadyH.cons (by rw [List.getElem?_toArray]; rfl) (fun K hK => ?_) AllReadyH.nil
      have c5 : vu16.cell? ⟨g, 1, none⟩ = some (.slice av n cv) := by rw [HK.out.md.cells.2 1 (by decide), HV.out.1]
      clear hHeld
      go_simp
      refine hK.out _ _ HK.out.s (fun hHeld => ?_)
      clear hK K c5
      refine wpAnyH_ready (rs := [14]) (by kernel_rfl) (by simp) ?_
      refine AllReadyH.cons (by rw [List.getElem?_toArray]; rfl) (fun K hK => ?_) AllReadyH.nil
      clear hHeld
      rw [if_pos (by rfl)]
      refine wp_append_lies _ _ _ 50 rfl B 24 i24 (.agg #[.int .i64 0, .int .i64 0]) 2 16 Try.underlying50 hi24 hy0 hy1 hy2 rfl (by decide) (.slice av n cv) n _ rfl (HR.out _ HK.out) ⟨p13, 0, none⟩ 1 1 [.int .i64 key, .int .i64 id] rfl rfl (World.news_of_block (cs := #[.int .i64 key, .int .i64 id]) hcn.out) (by simp [Value.oneCell']) (by decide) (by unfold maxLen; omega) (by omega) HK.out.sz _ rfl ?_
      intro g5 cap5 w5 hown5 hgrow5 hl5 hlt5
      have HN := Lib.hid (HK.out.app rfl HV.out hown5 hgrow5 hl5)
      clear HK hown5 hgrow5 hl5 hlt5 hcn
      refine hK.out _ _ HN.out.s (fun hHeld => ?_)
      clear hK K
      refine wpAnyH_take (i := 15) (v := ?vu17) (by rw [List.getElem?_toArray]; rfl) (by kernel_rfl) (by kernel_rfl) (by kernel_rfl) ?ku17 (Or.inl ⟨by rfl, ?yu17⟩) hHeld ?ru17
      case ku17 => exact fun _ _ _ h => h
      case yu17 => (intro wz hSw; obtain ⟨s0, s1, s2⟩ := hSw; go_simp; try (with_reducible rfl))
      simp only [Act.put, List.setIfInBounds_toArray, List.set_cons_zero, List.set_cons_succ]
      refine wpAnyH_ready (rs := [16]) (by kernel_rfl) (by simp) ?_
      refine AllReadyH.cons (by rw [List.getElem?_toArray]; rfl) (fun K hK => ?_) AllReadyH.nil
      obtain ⟨c5, f5⟩ := HN.out.old
      have HP := Lib.hid HN.out.put
      clear hHeld HN
      go_simp
      refine hK.out _ _ HP.out.s (fun hHeld => ?_)
      clear hK K c5 f5 hHeld
      refine wpAnyH_done (by kernel_rfl) ?_ _
      have FN := Lib.hid (HF.out _ _ trivial HP.out)
      clear HP HF
      go_wp2
      go_ret
      exact ⟨rfl, FN.out⟩
end Go.Proofs.Ytiiclonklihaiaa

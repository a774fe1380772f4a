/-
  MoundFull: a mound of one level.
-/
import Derived.Test.YtiiclonklihaiaaOpen
namespace Go.Proofs.Ytiiclonklihaiaa
open Go.RowKit
set_option linter.unusedVariables false
def SR (xb bb o : Nat) (kx key : Int) (w : World) : Prop := w.cell? ⟨xb, 0, none⟩ = some (.int .i64 kx) ∧ w.cell? ⟨bb, o, none⟩ = some (.int .i64 key)
/-- ahead of a round -/
def LR (B b g N k : Nat) (W w : World) : Prop := k ≤ N ∧ ∃ vs ls, MD B b g 2 vs ls w ∧ (ls 1).length ≤ k ∧ (ls 0).length ≤ 900 ∧ Below B W w ∧ B ≤ w.heap.size
/-- ahead of the insert -/
structure K1 (B b g xb bb o : Nat) (vs : Nat → Value) (ls : Nat → List (Int × Int)) (kx ix key : Int) (W w : World) : Prop where
  md : MD B b g 2 vs ls w
  bel : Below B W w
  sz : B ≤ w.heap.size
  far : some xb ≠ (vs 1).ownBlock
  box : w.heap[xb]? = some (.cells #[.int .i64 kx, .int .i64 ix] 24 (0, 0))
  low : bb < B
  key : w.cell? ⟨bb, o, none⟩ = some (.int .i64 key)
theorem K1.s {B b g xb bb o : Nat} {vs : Nat → Value} {ls : Nat → List (Int × Int)} {kx ix key : Int} {W w : World} (h : K1 B b g xb bb o vs ls kx ix key W w) : SR xb bb o kx key w := ⟨cell_of_row _ _ 0 _ _ _ h.box, h.key⟩
theorem K1.drew {B b g xb bb o : Nat} {vs : Nat → Value} {ls : Nat → List (Int × Int)} {kx ix key : Int} {W w : World} (h : K1 B b g xb bb o vs ls kx ix key W w) : K1 B b g xb bb o vs ls kx ix key W w.drew :=
  ⟨⟨h.md.box, h.md.top, h.md.rows, h.md.ap, h.md.len⟩, ⟨h.bel.os, h.bel.tape, h.bel.output, h.bel.size, h.bel.block⟩, h.sz, h.far, h.box, h.low, h.key⟩
/-- behind it -/
structure K2 (B b g xb bb o N k : Nat) (kx key : Int) (W w : World) : Prop where
  s : SR xb bb o kx key w
  rel : k < N → LR B b g N (k + 1) W w
theorem ins_reg {B b g xb bb o N k : Nat} {vs : Nat → Value} {ls : Nat → List (Int × Int)} {kx ix key : Int} {W w : World} {r : Bool} (h : K1 B b g xb bb o vs ls kx ix key W w) (hg : B ≤ b ∧ B ≤ g ∧ (ls 1).length ≤ k ∧ (ls 0).length ≤ 900 ∧ k ≤ 40) (hr : tkv (frst (ls 1)) key = r) :
    Calls Try.prog 12 #[.pointer (some ⟨b, 0, none⟩), .agg #[.int .i64 key, .int .i64 0], .slice none 0 0] w fun e w' => e = .returned (.bool r) ∧ K2 B b g xb bb o N k kx key W w' := by
  obtain ⟨hb, hg, l1, l0, h40⟩ := hg
  cases r with
  | true =>
    refine (ins_yes B b g key 0 vs ls w h.md h.sz ⟨hb, hg⟩ l0 (by omega) hr).mono ?_
    rintro e w' ⟨rfl, v, hM, hB, hF⟩
    refine ⟨rfl, ⟨cell_of_row _ _ 0 _ _ _ ((hF _ (lt_blk h.box) (box_far h.md h.box) h.far).trans h.box), (hB.cell (p := ⟨bb, o, none⟩) h.low).trans h.key⟩, fun hlt => ⟨by omega, _, _, hM, ?_, ?_, bel_tr h.bel hB, Nat.le_trans h.sz hB.size⟩⟩
    · unfold upL; simp; omega
    · unfold upL; simpa using l0
  | false =>
    refine (ins_no B b g key 0 vs ls w h.md hr).mono ?_
    rintro e w' ⟨rfl, hB⟩
    refine ⟨rfl, ⟨cell_of_row _ _ 0 _ _ _ ((hB.block _ (lt_blk h.box)).trans h.box), ((bel_at hB h.sz).cell (p := ⟨bb, o, none⟩) h.low).trans h.key⟩, fun hlt => ⟨by omega, vs, ls, h.md.up hB, by omega, l0, bel_tr h.bel (bel_at hB h.sz), Nat.le_trans h.sz hB.size⟩⟩
set_option maxRecDepth 100000 in
set_option maxHeartbeats 16000000 in
theorem moundFull_walk (x0 : List Int) (a0 : Option Addr) (n0 c0 : Nat) (W : World) (s0 : Arg 40 W a0 n0 c0 x0) :
    Calls Try.prog 6 #[.slice a0 n0 c0] W fun e w' => e = .returned (.bool true) ∧ Below W.heap.size W w' := by
  obtain ⟨N, hN⟩ : ∃ N, N = x0.length := ⟨_, rfl⟩
  have hA : N ≤ n0 ∧ N ≤ 40 ∧ (N = n0 ∨ N = 40) := by
    rcases s0 with ⟨_, h1, _, rfl⟩ | ⟨_, _, h1, _, rfl⟩ | ⟨_, _, _, _, _, _, _, h5⟩
    · simp at hN; omega
    · simp at hN; omega
    · omega
  have HE : Hid (∀ k, k < N → ∃ bb oo, a0 = some ⟨bb, oo, none⟩ ∧ bb < W.heap.size ∧ W.cell? ⟨bb, oo + k, none⟩ = some (.int .i64 (nth x0 k))) := fun k hk => by
    rcases s0 with ⟨_, h1, _, rfl⟩ | ⟨_, _, h1, _, rfl⟩ | ⟨bb, oo, h1, _, _, h2, h3, h5⟩
    · simp at hN; omega
    · simp at hN; omega
    · exact ⟨bb, oo, h1, h2, h3 k (by omega)⟩
  clear s0 hN
  obtain ⟨B, hBd⟩ : ∃ B, B = W.heap.size := ⟨_, rfl⟩
  have HBd := Lib.hid hBd
  have HA := Lib.hid hA
  have N1 := Lib.hid (new1 W)
  rw [← hBd] at N1 HE
  clear hA hBd
  go_enter Try.func6, Try.ntmps6
  go_wp2_with fail
  refine N1.out.mono ?_
  rintro e w1 ⟨b, g, rfl, hM1, hB1, hb, hg⟩
  have HGE := Lib.hid (And.intro hb hg)
  have M1 := Lib.hid (And.intro hM1 hB1)
  have S1 : Hid (B ≤ w1.heap.size) := by rw [HBd.out]; exact (show Below W.heap.size W w1 by rw [← HBd.out]; exact hB1).size
  clear N1 hM1 hB1 hb hg
  go_wp2_with fail
  refine (mounds_any w1).mono ?_
  rintro e w2 ⟨rfl, hB2⟩
  have R0 : Hid (LR B b g N 0 W w2) := ⟨by omega, _, _, M1.out.1.up hB2, by simp, by simp, bel_tr M1.out.2 (bel_at hB2 S1.out), Nat.le_trans S1.out hB2.size⟩
  clear M1 S1 hB2
  go_wp2
  go_loopw [5] (fun i wr => ∃ k : Nat, i = .int .i64 k ∧ Hid (LR B b g N k W wr)) (fun i _ => N - (intOf i).toNat)
  case atStart => exact ⟨0, by go_num, R0⟩
  case round =>
    obtain ⟨k, rfl, HR⟩ := hrel
    clear R0
    obtain ⟨hk, vs, ls, hM, l1, l0, hbel, hs⟩ := HR.out
    obtain ⟨hA1, hA2, hA3⟩ := HA.out
    have kb1 : (0 : Int) ≤ (k : Int) := by omega
    by_cases hlt : k < N
    · have kb2 : (k : Int) < (n0 : Int) := by omega
      have kb3 : (k : Int) < 40 := by omega
      obtain ⟨bb, oo, rfl, hbb, hc⟩ := HE.out k hlt
      generalize nth x0 k = key at *
      have HM := Lib.hid (min_any B b g 2 (by decide) (by decide) vs ls wr hM)
      obtain ⟨kx, hkx⟩ : ∃ kx, kx = ((frst (ls 1)).getD (0, 0)).1 := ⟨_, rfl⟩
      obtain ⟨ix, hix⟩ : ∃ ix, ix = ((frst (ls 1)).getD (0, 0)).2 := ⟨_, rfl⟩
      obtain ⟨ok, hok⟩ : ∃ ok, ok = (frst (ls 1)).isSome := ⟨_, rfl⟩
      have HT0 : Hid (tkv (frst (ls 1)) key = (!ok || decide (key ≤ kx))) := by rw [hok, hkx]; rfl
      rw [← hkx, ← hix, ← hok] at HM
      have HK0 : Hid (∀ w3, Below wr.heap.size wr w3 → K1 B b g w3.heap.size bb (oo + k) vs ls kx ix key W (w3.alloc (.cells #[.int .i64 kx, .int .i64 ix] 24))) := fun w3 h3 => by
        have m3 := hM.up h3
        have b3 := bel_tr hbel (bel_at h3 hs)
        have z3 := Nat.le_trans hs h3.size
        have b4 := b3.alloc z3 (.cells #[.int .i64 kx, .int .i64 ix] 24)
        refine ⟨m3.up (bl_al (Below.refl _ _) _), b4, by simp; omega, fun e => ?_, heap_alloc_new w3 _, hbb, (b4.cell (p := ⟨bb, oo + k, none⟩) hbb).trans hc⟩
        have := ((m3.rows 1 (by decide)).lt _ e.symm).2
        omega
      have HG : Hid (B ≤ b ∧ B ≤ g ∧ (ls 1).length ≤ k ∧ (ls 0).length ≤ 900 ∧ k ≤ 40) := ⟨HGE.out.1, HGE.out.2, l1, l0, by omega⟩
      clear HR hM l1 l0 hbel hs hkx hix hok hc hA1 hA2 hA3
      go_wp2_with fail
      refine HM.out.mono ?_
      rintro e w3 ⟨rfl, hB3⟩
      have HK := Lib.hid (HK0.out w3 hB3)
      clear HM hB3 HK0
      cases ok with
      | false =>
        have HT : Hid (tkv (frst (ls 1)) key = true) := HT0.out
        clear HT0
        go_wp2
        refine wp_region_held_drew (S := SR w3.heap.size bb (oo + k) kx key) (by kernel_rfl) HK.out.drew.s (fun hHeld => ?_)
        have HKd := Lib.hid HK.out.drew
        clear HK
        have HK := HKd
        clear HKd
        generalize World.drew _ = vu1 at *
        refine wpAnyH_take (i := 0) (v := ?vu3) (by rw [List.getElem?_toArray]; rfl) (by kernel_rfl) (by kernel_rfl) (by kernel_rfl) ?ku3 (Or.inl ⟨by rfl, ?yu3⟩) hHeld ?ru3
        case ku3 => exact fun _ _ _ h => h
        case yu3 => (intro wz hSw; obtain ⟨s0, s1⟩ := hSw; go_simp; try (with_reducible rfl))
        simp only [Act.put, List.setIfInBounds_toArray, List.set_cons_zero, List.set_cons_succ]
        refine wpAnyH_take (i := 1) (v := ?vu4) (by rw [List.getElem?_toArray]; rfl) (by kernel_rfl) (by kernel_rfl) (by kernel_rfl) ?ku4 (Or.inl ⟨by rfl, ?yu4⟩) hHeld ?ru4
        case ku4 => exact fun _ _ _ h => h
        case yu4 => (intro wz hSw; obtain ⟨s0, s1⟩ := hSw; go_simp; try (with_reducible rfl))
        simp only [Act.put, List.setIfInBounds_toArray, List.set_cons_zero, List.set_cons_succ]
        refine wpAnyH_take (i := 2) (v := ?vu5) (by rw [List.getElem?_toArray]; rfl) (by kernel_rfl) (by kernel_rfl) (by kernel_rfl) ?ku5 (Or.inl ⟨by rfl, ?yu5⟩) hHeld ?ru5
        case ku5 => exact fun _ _ _ h => h
        case yu5 => (intro wz hSw; obtain ⟨s0, s1⟩ := hSw; go_simp; try (with_reducible rfl))
        simp only [Act.put, List.setIfInBounds_toArray, List.set_cons_zero, List.set_cons_succ]
        refine wpAnyH_take (i := 3) (v := ?vu6) (by rw [List.getElem?_toArray]; rfl) (by kernel_rfl) (by kernel_rfl) (by kernel_rfl) ?ku6 (Or.inl ⟨by rfl, ?yu6⟩) hHeld ?ru6
        case ku6 => exact fun _ _ _ h => h
        case yu6 => (intro wz hSw; obtain ⟨s0, s1⟩ := hSw; go_simp; try (with_reducible rfl))
        simp only [Act.put, List.setIfInBounds_toArray, List.set_cons_zero, List.set_cons_succ]
        refine wpAnyH_take (i := 4) (v := ?vu7) (by rw [List.getElem?_toArray]; rfl) (by kernel_rfl) (by kernel_rfl) (by kernel_rfl) ?ku7 (Or.inl ⟨by rfl, ?yu7⟩) hHeld ?ru7
        case ku7 => exact fun _ _ _ h => h
        case yu7 => (intro wz hSw; obtain ⟨s0, s1⟩ := hSw; go_simp; try (with_reducible rfl))
        simp only [Act.put, List.setIfInBounds_toArray, List.set_cons_zero, List.set_cons_succ]
        refine wpAnyH_take (i := 5) (v := ?vu8) (by rw [List.getElem?_toArray]; rfl) (by kernel_rfl) (by kernel_rfl) (by kernel_rfl) ?ku8 (Or.inl ⟨by rfl, ?yu8⟩) hHeld ?ru8
        case ku8 => exact fun _ _ _ h => h
        case yu8 => (intro wz hSw; obtain ⟨s0, s1⟩ := hSw; go_simp; try (with_reducible rfl))
        simp only [Act.put, List.setIfInBounds_toArray, List.set_cons_zero, List.set_cons_succ]
        refine wpAnyH_take (i := 7) (v := ?vu9) (by rw [List.getElem?_toArray]; rfl) (by kernel_rfl) (by kernel_rfl) (by kernel_rfl) ?ku9 (Or.inl ⟨by rfl, ?yu9⟩) hHeld ?ru9
        case ku9 => exact fun _ _ _ h => h
        case yu9 => (intro wz hSw; obtain ⟨s0, s1⟩ := hSw; go_simp; try (with_reducible rfl))
        simp only [Act.put, List.setIfInBounds_toArray, List.set_cons_zero, List.set_cons_succ]
        refine wpAnyH_take (i := 8) (v := ?vu10) (by rw [List.getElem?_toArray]; rfl) (by kernel_rfl) (by kernel_rfl) (by kernel_rfl) ?ku10 (Or.inl ⟨by rfl, ?yu10⟩) hHeld ?ru10
        case ku10 => exact fun _ _ _ h => h
        case yu10 => (intro wz hSw; obtain ⟨s0, s1⟩ := hSw; go_simp; try (with_reducible rfl))
        simp only [Act.put, List.setIfInBounds_toArray, List.set_cons_zero, List.set_cons_succ]
        refine wpAnyH_ready (rs := [6]) (by kernel_rfl) (by simp) ?_
        refine AllReadyH.cons (by rw [List.getElem?_toArray]; rfl) (fun K hK => ?_) AllReadyH.nil
        clear hHeld
        go_simp
        go_at_call 12; refine (ins_reg (N := N) HK.out HG.out HT.out).mono ?_; rintro e vu2 ⟨rfl, hK2⟩
        have HQ := Lib.hid hK2
        clear HK hK2
        go_wp2_with fail
        refine hK.out _ _ HQ.out.s (fun hHeld => ?_)
        clear hK K
        refine wpAnyH_take (i := 9) (v := ?vu11) (by rw [List.getElem?_toArray]; rfl) (by kernel_rfl) (by kernel_rfl) (by kernel_rfl) ?ku11 (Or.inl ⟨by rfl, ?yu11⟩) hHeld ?ru11
        case ku11 => exact fun _ _ _ h => h
        case yu11 => (intro wz hSw; obtain ⟨s0, s1⟩ := hSw; go_simp; try (with_reducible rfl))
        simp only [Act.put, List.setIfInBounds_toArray, List.set_cons_zero, List.set_cons_succ]
        refine wpAnyH_take (i := 10) (v := undef) (by rw [List.getElem?_toArray]; rfl) (by kernel_rfl) (by kernel_rfl) (by kernel_rfl) ?ku12 (Or.inr ⟨by rfl, rfl⟩) hHeld ?ru12
        case ku12 => exact fun _ _ _ h => h
        simp only [Act.put, List.setIfInBounds_toArray, List.set_cons_zero, List.set_cons_succ]
        refine wpAnyH_take (i := 11) (v := undef) (by rw [List.getElem?_toArray]; rfl) (by kernel_rfl) (by kernel_rfl) (by kernel_rfl) ?ku13 (Or.inr ⟨by rfl, rfl⟩) hHeld ?ru13
        case ku13 => exact fun _ _ _ h => h
        simp only [Act.put, List.setIfInBounds_toArray, List.set_cons_zero, List.set_cons_succ]
        refine wpAnyH_take (i := 12) (v := undef) (by rw [List.getElem?_toArray]; rfl) (by kernel_rfl) (by kernel_rfl) (by kernel_rfl) ?ku14 (Or.inr ⟨by rfl, rfl⟩) hHeld ?ru14
        case ku14 => exact fun _ _ _ h => h
        simp only [Act.put, List.setIfInBounds_toArray, List.set_cons_zero, List.set_cons_succ]
        refine wpAnyH_take (i := 13) (v := undef) (by rw [List.getElem?_toArray]; rfl) (by kernel_rfl) (by kernel_rfl) (by kernel_rfl) ?ku15 (Or.inr ⟨by rfl, rfl⟩) hHeld ?ru15
        case ku15 => exact fun _ _ _ h => h
        simp only [Act.put, List.setIfInBounds_toArray, List.set_cons_zero, List.set_cons_succ]
        refine wpAnyH_take (i := 14) (v := undef) (by rw [List.getElem?_toArray]; rfl) (by kernel_rfl) (by kernel_rfl) (by kernel_rfl) ?ku16 (Or.inr ⟨by rfl, rfl⟩) hHeld ?ru16
        case ku16 => exact fun _ _ _ h => h
        simp only [Act.put, List.setIfInBounds_toArray, List.set_cons_zero, List.set_cons_succ]
        refine wpAnyH_take (i := 15) (v := undef) (by rw [List.getElem?_toArray]; rfl) (by kernel_rfl) (by kernel_rfl) (by kernel_rfl) ?ku17 (Or.inr ⟨by rfl, rfl⟩) hHeld ?ru17
        case ku17 => exact fun _ _ _ h => h
        simp only [Act.put, List.setIfInBounds_toArray, List.set_cons_zero, List.set_cons_succ]
        refine wpAnyH_take (i := 16) (v := undef) (by rw [List.getElem?_toArray]; rfl) (by kernel_rfl) (by kernel_rfl) (by kernel_rfl) ?ku18 (Or.inr ⟨by rfl, rfl⟩) hHeld ?ru18
        case ku18 => exact fun _ _ _ h => h
        simp only [Act.put, List.setIfInBounds_toArray, List.set_cons_zero, List.set_cons_succ]
        refine wpAnyH_take (i := 17) (v := ?vu19) (by rw [List.getElem?_toArray]; rfl) (by kernel_rfl) (by kernel_rfl) (by kernel_rfl) ?ku19 (Or.inl ⟨by rfl, ?yu19⟩) hHeld ?ru19
        case ku19 => exact fun _ _ _ h => h
        case yu19 => (intro wz hSw; obtain ⟨s0, s1⟩ := hSw; go_simp; try (with_reducible rfl))
        simp only [Act.put, List.setIfInBounds_toArray, List.set_cons_zero, List.set_cons_succ]
        refine wpAnyH_take (i := 18) (v := ?vu20) (by rw [List.getElem?_toArray]; rfl) (by kernel_rfl) (by kernel_rfl) (by kernel_rfl) ?ku20 (Or.inl ⟨by rfl, ?yu20⟩) hHeld ?ru20
        case ku20 => exact fun _ _ _ h => h
        case yu20 => (intro wz hSw; obtain ⟨s0, s1⟩ := hSw; go_simp; try (with_reducible rfl))
        simp only [Act.put, List.setIfInBounds_toArray, List.set_cons_zero, List.set_cons_succ]
        refine wpAnyH_done (by kernel_rfl) ?_ _
        have FN := Lib.hid HQ.out.rel
        clear HQ hHeld
        go_wp2
        go_roundw
        case rel => exact ⟨k + 1, by go_num, Lib.hid (FN.out hlt)⟩
        case measure => simp [intOf]; omega
      | true =>
        by_cases hle : key ≤ kx
        · have HT : Hid (tkv (frst (ls 1)) key = true) := Lib.hid (by have := HT0.out; simpa [hle] using this)
          clear HT0
          go_wp2
          refine wp_region_held_drew (S := SR w3.heap.size bb (oo + k) kx key) (by kernel_rfl) HK.out.drew.s (fun hHeld => ?_)
          have HKd := Lib.hid HK.out.drew
          clear HK
          have HK := HKd
          clear HKd
          generalize World.drew _ = vu21 at *
          refine wpAnyH_take (i := 0) (v := ?vu23) (by rw [List.getElem?_toArray]; rfl) (by kernel_rfl) (by kernel_rfl) (by kernel_rfl) ?ku23 (Or.inl ⟨by rfl, ?yu23⟩) hHeld ?ru23
          case ku23 => exact fun _ _ _ h => h
          case yu23 => (intro wz hSw; obtain ⟨s0, s1⟩ := hSw; go_simp; try (with_reducible rfl))
          simp only [Act.put, List.setIfInBounds_toArray, List.set_cons_zero, List.set_cons_succ]
          refine wpAnyH_take (i := 1) (v := ?vu24) (by rw [List.getElem?_toArray]; rfl) (by kernel_rfl) (by kernel_rfl) (by kernel_rfl) ?ku24 (Or.inl ⟨by rfl, ?yu24⟩) hHeld ?ru24
          case ku24 => exact fun _ _ _ h => h
          case yu24 => (intro wz hSw; obtain ⟨s0, s1⟩ := hSw; go_simp; try (with_reducible rfl))
          simp only [Act.put, List.setIfInBounds_toArray, List.set_cons_zero, List.set_cons_succ]
          refine wpAnyH_take (i := 2) (v := ?vu25) (by rw [List.getElem?_toArray]; rfl) (by kernel_rfl) (by kernel_rfl) (by kernel_rfl) ?ku25 (Or.inl ⟨by rfl, ?yu25⟩) hHeld ?ru25
          case ku25 => exact fun _ _ _ h => h
          case yu25 => (intro wz hSw; obtain ⟨s0, s1⟩ := hSw; go_simp; try (with_reducible rfl))
          simp only [Act.put, List.setIfInBounds_toArray, List.set_cons_zero, List.set_cons_succ]
          refine wpAnyH_take (i := 3) (v := ?vu26) (by rw [List.getElem?_toArray]; rfl) (by kernel_rfl) (by kernel_rfl) (by kernel_rfl) ?ku26 (Or.inl ⟨by rfl, ?yu26⟩) hHeld ?ru26
          case ku26 => exact fun _ _ _ h => h
          case yu26 => (intro wz hSw; obtain ⟨s0, s1⟩ := hSw; go_simp; try (with_reducible rfl))
          simp only [Act.put, List.setIfInBounds_toArray, List.set_cons_zero, List.set_cons_succ]
          refine wpAnyH_take (i := 4) (v := ?vu27) (by rw [List.getElem?_toArray]; rfl) (by kernel_rfl) (by kernel_rfl) (by kernel_rfl) ?ku27 (Or.inl ⟨by rfl, ?yu27⟩) hHeld ?ru27
          case ku27 => exact fun _ _ _ h => h
          case yu27 => (intro wz hSw; obtain ⟨s0, s1⟩ := hSw; go_simp; try (with_reducible rfl))
          simp only [Act.put, List.setIfInBounds_toArray, List.set_cons_zero, List.set_cons_succ]
          refine wpAnyH_take (i := 5) (v := ?vu28) (by rw [List.getElem?_toArray]; rfl) (by kernel_rfl) (by kernel_rfl) (by kernel_rfl) ?ku28 (Or.inl ⟨by rfl, ?yu28⟩) hHeld ?ru28
          case ku28 => exact fun _ _ _ h => h
          case yu28 => (intro wz hSw; obtain ⟨s0, s1⟩ := hSw; go_simp; try (with_reducible rfl))
          simp only [Act.put, List.setIfInBounds_toArray, List.set_cons_zero, List.set_cons_succ]
          refine wpAnyH_take (i := 7) (v := ?vu29) (by rw [List.getElem?_toArray]; rfl) (by kernel_rfl) (by kernel_rfl) (by kernel_rfl) ?ku29 (Or.inl ⟨by rfl, ?yu29⟩) hHeld ?ru29
          case ku29 => exact fun _ _ _ h => h
          case yu29 => (intro wz hSw; obtain ⟨s0, s1⟩ := hSw; go_simp; try (with_reducible rfl))
          simp only [Act.put, List.setIfInBounds_toArray, List.set_cons_zero, List.set_cons_succ]
          refine wpAnyH_take (i := 8) (v := ?vu30) (by rw [List.getElem?_toArray]; rfl) (by kernel_rfl) (by kernel_rfl) (by kernel_rfl) ?ku30 (Or.inl ⟨by rfl, ?yu30⟩) hHeld ?ru30
          case ku30 => exact fun _ _ _ h => h
          case yu30 => (intro wz hSw; obtain ⟨s0, s1⟩ := hSw; go_simp; try (with_reducible rfl))
          simp only [Act.put, List.setIfInBounds_toArray, List.set_cons_zero, List.set_cons_succ]
          refine wpAnyH_ready (rs := [6]) (by kernel_rfl) (by simp) ?_
          refine AllReadyH.cons (by rw [List.getElem?_toArray]; rfl) (fun K hK => ?_) AllReadyH.nil
          clear hHeld
          go_simp
          go_at_call 12; refine (ins_reg (N := N) HK.out HG.out HT.out).mono ?_; rintro e vu22 ⟨rfl, hK2⟩
          have HQ := Lib.hid hK2
          clear HK hK2
          go_wp2_with fail
          refine hK.out _ _ HQ.out.s (fun hHeld => ?_)
          clear hK K
          refine wpAnyH_take (i := 9) (v := ?vu31) (by rw [List.getElem?_toArray]; rfl) (by kernel_rfl) (by kernel_rfl) (by kernel_rfl) ?ku31 (Or.inl ⟨by rfl, ?yu31⟩) hHeld ?ru31
          case ku31 => exact fun _ _ _ h => h
          case yu31 => (intro wz hSw; obtain ⟨s0, s1⟩ := hSw; go_simp; try (with_reducible rfl))
          simp only [Act.put, List.setIfInBounds_toArray, List.set_cons_zero, List.set_cons_succ]
          refine wpAnyH_take (i := 10) (v := ?vu32) (by rw [List.getElem?_toArray]; rfl) (by kernel_rfl) (by kernel_rfl) (by kernel_rfl) ?ku32 (Or.inl ⟨by rfl, ?yu32⟩) hHeld ?ru32
          case ku32 => exact fun _ _ _ h => h
          case yu32 => (intro wz hSw; obtain ⟨s0, s1⟩ := hSw; go_simp; try (with_reducible rfl))
          simp only [Act.put, List.setIfInBounds_toArray, List.set_cons_zero, List.set_cons_succ]
          refine wpAnyH_take (i := 11) (v := ?vu33) (by rw [List.getElem?_toArray]; rfl) (by kernel_rfl) (by kernel_rfl) (by kernel_rfl) ?ku33 (Or.inl ⟨by rfl, ?yu33⟩) hHeld ?ru33
          case ku33 => exact fun _ _ _ h => h
          case yu33 => (intro wz hSw; obtain ⟨s0, s1⟩ := hSw; go_simp; try (with_reducible rfl))
          simp only [Act.put, List.setIfInBounds_toArray, List.set_cons_zero, List.set_cons_succ]
          refine wpAnyH_take (i := 12) (v := ?vu34) (by rw [List.getElem?_toArray]; rfl) (by kernel_rfl) (by kernel_rfl) (by kernel_rfl) ?ku34 (Or.inl ⟨by rfl, ?yu34⟩) hHeld ?ru34
          case ku34 => exact fun _ _ _ h => h
          case yu34 => (intro wz hSw; obtain ⟨s0, s1⟩ := hSw; go_simp; try (with_reducible rfl))
          simp only [Act.put, List.setIfInBounds_toArray, List.set_cons_zero, List.set_cons_succ]
          refine wpAnyH_take (i := 13) (v := ?vu35) (by rw [List.getElem?_toArray]; rfl) (by kernel_rfl) (by kernel_rfl) (by kernel_rfl) ?ku35 (Or.inl ⟨by rfl, ?yu35⟩) hHeld ?ru35
          case ku35 => exact fun _ _ _ h => h
          case yu35 => (intro wz hSw; obtain ⟨s0, s1⟩ := hSw; go_simp; try (with_reducible rfl))
          simp only [Act.put, List.setIfInBounds_toArray, List.set_cons_zero, List.set_cons_succ]
          refine wpAnyH_take (i := 14) (v := ?vu36) (by rw [List.getElem?_toArray]; rfl) (by kernel_rfl) (by kernel_rfl) (by kernel_rfl) ?ku36 (Or.inl ⟨by rfl, ?yu36⟩) hHeld ?ru36
          case ku36 => exact fun _ _ _ h => h
          case yu36 => (intro wz hSw; obtain ⟨s0, s1⟩ := hSw; go_simp; try (with_reducible rfl))
          simp only [Act.put, List.setIfInBounds_toArray, List.set_cons_zero, List.set_cons_succ]
          refine wpAnyH_take (i := 15) (v := ?vu37) (by rw [List.getElem?_toArray]; rfl) (by kernel_rfl) (by kernel_rfl) (by kernel_rfl) ?ku37 (Or.inl ⟨by rfl, ?yu37⟩) hHeld ?ru37
          case ku37 => exact fun _ _ _ h => h
          case yu37 => (intro wz hSw; obtain ⟨s0, s1⟩ := hSw; go_simp; try (with_reducible rfl))
          simp only [Act.put, List.setIfInBounds_toArray, List.set_cons_zero, List.set_cons_succ]
          refine wpAnyH_take (i := 16) (v := ?vu38) (by rw [List.getElem?_toArray]; rfl) (by kernel_rfl) (by kernel_rfl) (by kernel_rfl) ?ku38 (Or.inl ⟨by rfl, ?yu38⟩) hHeld ?ru38
          case ku38 => exact fun _ _ _ h => h
          case yu38 => (intro wz hSw; obtain ⟨s0, s1⟩ := hSw; go_simp; try (with_reducible rfl))
          simp only [Act.put, List.setIfInBounds_toArray, List.set_cons_zero, List.set_cons_succ]
          refine wpAnyH_take (i := 17) (v := ?vu39) (by rw [List.getElem?_toArray]; rfl) (by kernel_rfl) (by kernel_rfl) (by kernel_rfl) ?ku39 (Or.inl ⟨by rfl, ?yu39⟩) hHeld ?ru39
          case ku39 => exact fun _ _ _ h => h
          case yu39 => (intro wz hSw; obtain ⟨s0, s1⟩ := hSw; go_simp; try (with_reducible rfl))
          simp only [Act.put, List.setIfInBounds_toArray, List.set_cons_zero, List.set_cons_succ]
          refine wpAnyH_take (i := 18) (v := ?vu40) (by rw [List.getElem?_toArray]; rfl) (by kernel_rfl) (by kernel_rfl) (by kernel_rfl) ?ku40 (Or.inl ⟨by rfl, ?yu40⟩) hHeld ?ru40
          case ku40 => exact fun _ _ _ h => h
          case yu40 => (intro wz hSw; obtain ⟨s0, s1⟩ := hSw; go_simp; try (with_reducible rfl))
          simp only [Act.put, List.setIfInBounds_toArray, List.set_cons_zero, List.set_cons_succ]
          refine wpAnyH_done (by kernel_rfl) ?_ _
          have FN := Lib.hid HQ.out.rel
          clear HQ hHeld
          go_wp2
          go_roundw
          case rel => exact ⟨k + 1, by go_num, Lib.hid (FN.out hlt)⟩
          case measure => simp [intOf]; omega
        · have HT : Hid (tkv (frst (ls 1)) key = false) := Lib.hid (by have := HT0.out; simpa [hle] using this)
          clear HT0
          go_wp2
          refine wp_region_held_drew (S := SR w3.heap.size bb (oo + k) kx key) (by kernel_rfl) HK.out.drew.s (fun hHeld => ?_)
          have HKd := Lib.hid HK.out.drew
          clear HK
          have HK := HKd
          clear HKd
          generalize World.drew _ = vu41 at *
          refine wpAnyH_take (i := 0) (v := ?vu43) (by rw [List.getElem?_toArray]; rfl) (by kernel_rfl) (by kernel_rfl) (by kernel_rfl) ?ku43 (Or.inl ⟨by rfl, ?yu43⟩) hHeld ?ru43
          case ku43 => exact fun _ _ _ h => h
          case yu43 => (intro wz hSw; obtain ⟨s0, s1⟩ := hSw; go_simp; try (with_reducible rfl))
          simp only [Act.put, List.setIfInBounds_toArray, List.set_cons_zero, List.set_cons_succ]
          refine wpAnyH_take (i := 1) (v := ?vu44) (by rw [List.getElem?_toArray]; rfl) (by kernel_rfl) (by kernel_rfl) (by kernel_rfl) ?ku44 (Or.inl ⟨by rfl, ?yu44⟩) hHeld ?ru44
          case ku44 => exact fun _ _ _ h => h
          case yu44 => (intro wz hSw; obtain ⟨s0, s1⟩ := hSw; go_simp; try (with_reducible rfl))
          simp only [Act.put, List.setIfInBounds_toArray, List.set_cons_zero, List.set_cons_succ]
          refine wpAnyH_take (i := 2) (v := ?vu45) (by rw [List.getElem?_toArray]; rfl) (by kernel_rfl) (by kernel_rfl) (by kernel_rfl) ?ku45 (Or.inl ⟨by rfl, ?yu45⟩) hHeld ?ru45
          case ku45 => exact fun _ _ _ h => h
          case yu45 => (intro wz hSw; obtain ⟨s0, s1⟩ := hSw; go_simp; try (with_reducible rfl))
          simp only [Act.put, List.setIfInBounds_toArray, List.set_cons_zero, List.set_cons_succ]
          refine wpAnyH_take (i := 3) (v := ?vu46) (by rw [List.getElem?_toArray]; rfl) (by kernel_rfl) (by kernel_rfl) (by kernel_rfl) ?ku46 (Or.inl ⟨by rfl, ?yu46⟩) hHeld ?ru46
          case ku46 => exact fun _ _ _ h => h
          case yu46 => (intro wz hSw; obtain ⟨s0, s1⟩ := hSw; go_simp; try (with_reducible rfl))
          simp only [Act.put, List.setIfInBounds_toArray, List.set_cons_zero, List.set_cons_succ]
          refine wpAnyH_take (i := 4) (v := ?vu47) (by rw [List.getElem?_toArray]; rfl) (by kernel_rfl) (by kernel_rfl) (by kernel_rfl) ?ku47 (Or.inl ⟨by rfl, ?yu47⟩) hHeld ?ru47
          case ku47 => exact fun _ _ _ h => h
          case yu47 => (intro wz hSw; obtain ⟨s0, s1⟩ := hSw; go_simp; try (with_reducible rfl))
          simp only [Act.put, List.setIfInBounds_toArray, List.set_cons_zero, List.set_cons_succ]
          refine wpAnyH_take (i := 5) (v := ?vu48) (by rw [List.getElem?_toArray]; rfl) (by kernel_rfl) (by kernel_rfl) (by kernel_rfl) ?ku48 (Or.inl ⟨by rfl, ?yu48⟩) hHeld ?ru48
          case ku48 => exact fun _ _ _ h => h
          case yu48 => (intro wz hSw; obtain ⟨s0, s1⟩ := hSw; go_simp; try (with_reducible rfl))
          simp only [Act.put, List.setIfInBounds_toArray, List.set_cons_zero, List.set_cons_succ]
          refine wpAnyH_take (i := 7) (v := ?vu49) (by rw [List.getElem?_toArray]; rfl) (by kernel_rfl) (by kernel_rfl) (by kernel_rfl) ?ku49 (Or.inl ⟨by rfl, ?yu49⟩) hHeld ?ru49
          case ku49 => exact fun _ _ _ h => h
          case yu49 => (intro wz hSw; obtain ⟨s0, s1⟩ := hSw; go_simp; try (with_reducible rfl))
          simp only [Act.put, List.setIfInBounds_toArray, List.set_cons_zero, List.set_cons_succ]
          refine wpAnyH_take (i := 8) (v := ?vu50) (by rw [List.getElem?_toArray]; rfl) (by kernel_rfl) (by kernel_rfl) (by kernel_rfl) ?ku50 (Or.inl ⟨by rfl, ?yu50⟩) hHeld ?ru50
          case ku50 => exact fun _ _ _ h => h
          case yu50 => (intro wz hSw; obtain ⟨s0, s1⟩ := hSw; go_simp; try (with_reducible rfl))
          simp only [Act.put, List.setIfInBounds_toArray, List.set_cons_zero, List.set_cons_succ]
          refine wpAnyH_ready (rs := [6]) (by kernel_rfl) (by simp) ?_
          refine AllReadyH.cons (by rw [List.getElem?_toArray]; rfl) (fun K hK => ?_) AllReadyH.nil
          clear hHeld
          go_simp
          go_at_call 12; refine (ins_reg (N := N) HK.out HG.out HT.out).mono ?_; rintro e vu42 ⟨rfl, hK2⟩
          have HQ := Lib.hid hK2
          clear HK hK2
          go_wp2_with fail
          refine hK.out _ _ HQ.out.s (fun hHeld => ?_)
          clear hK K
          refine wpAnyH_take (i := 9) (v := ?vu51) (by rw [List.getElem?_toArray]; rfl) (by kernel_rfl) (by kernel_rfl) (by kernel_rfl) ?ku51 (Or.inl ⟨by rfl, ?yu51⟩) hHeld ?ru51
          case ku51 => exact fun _ _ _ h => h
          case yu51 => (intro wz hSw; obtain ⟨s0, s1⟩ := hSw; go_simp; try (with_reducible rfl))
          simp only [Act.put, List.setIfInBounds_toArray, List.set_cons_zero, List.set_cons_succ]
          refine wpAnyH_take (i := 10) (v := ?vu52) (by rw [List.getElem?_toArray]; rfl) (by kernel_rfl) (by kernel_rfl) (by kernel_rfl) ?ku52 (Or.inl ⟨by rfl, ?yu52⟩) hHeld ?ru52
          case ku52 => exact fun _ _ _ h => h
          case yu52 => (intro wz hSw; obtain ⟨s0, s1⟩ := hSw; go_simp; try (with_reducible rfl))
          simp only [Act.put, List.setIfInBounds_toArray, List.set_cons_zero, List.set_cons_succ]
          refine wpAnyH_take (i := 11) (v := ?vu53) (by rw [List.getElem?_toArray]; rfl) (by kernel_rfl) (by kernel_rfl) (by kernel_rfl) ?ku53 (Or.inl ⟨by rfl, ?yu53⟩) hHeld ?ru53
          case ku53 => exact fun _ _ _ h => h
          case yu53 => (intro wz hSw; obtain ⟨s0, s1⟩ := hSw; go_simp; try (with_reducible rfl))
          simp only [Act.put, List.setIfInBounds_toArray, List.set_cons_zero, List.set_cons_succ]
          refine wpAnyH_take (i := 12) (v := ?vu54) (by rw [List.getElem?_toArray]; rfl) (by kernel_rfl) (by kernel_rfl) (by kernel_rfl) ?ku54 (Or.inl ⟨by rfl, ?yu54⟩) hHeld ?ru54
          case ku54 => exact fun _ _ _ h => h
          case yu54 => (intro wz hSw; obtain ⟨s0, s1⟩ := hSw; go_simp; try (with_reducible rfl))
          simp only [Act.put, List.setIfInBounds_toArray, List.set_cons_zero, List.set_cons_succ]
          refine wpAnyH_take (i := 13) (v := ?vu55) (by rw [List.getElem?_toArray]; rfl) (by kernel_rfl) (by kernel_rfl) (by kernel_rfl) ?ku55 (Or.inl ⟨by rfl, ?yu55⟩) hHeld ?ru55
          case ku55 => exact fun _ _ _ h => h
          case yu55 => (intro wz hSw; obtain ⟨s0, s1⟩ := hSw; go_simp; try (with_reducible rfl))
          simp only [Act.put, List.setIfInBounds_toArray, List.set_cons_zero, List.set_cons_succ]
          refine wpAnyH_take (i := 14) (v := ?vu56) (by rw [List.getElem?_toArray]; rfl) (by kernel_rfl) (by kernel_rfl) (by kernel_rfl) ?ku56 (Or.inl ⟨by rfl, ?yu56⟩) hHeld ?ru56
          case ku56 => exact fun _ _ _ h => h
          case yu56 => (intro wz hSw; obtain ⟨s0, s1⟩ := hSw; go_simp; try (with_reducible rfl))
          simp only [Act.put, List.setIfInBounds_toArray, List.set_cons_zero, List.set_cons_succ]
          refine wpAnyH_take (i := 15) (v := ?vu57) (by rw [List.getElem?_toArray]; rfl) (by kernel_rfl) (by kernel_rfl) (by kernel_rfl) ?ku57 (Or.inl ⟨by rfl, ?yu57⟩) hHeld ?ru57
          case ku57 => exact fun _ _ _ h => h
          case yu57 => (intro wz hSw; obtain ⟨s0, s1⟩ := hSw; go_simp; try (with_reducible rfl))
          simp only [Act.put, List.setIfInBounds_toArray, List.set_cons_zero, List.set_cons_succ]
          refine wpAnyH_take (i := 16) (v := ?vu58) (by rw [List.getElem?_toArray]; rfl) (by kernel_rfl) (by kernel_rfl) (by kernel_rfl) ?ku58 (Or.inl ⟨by rfl, ?yu58⟩) hHeld ?ru58
          case ku58 => exact fun _ _ _ h => h
          case yu58 => (intro wz hSw; obtain ⟨s0, s1⟩ := hSw; go_simp; try (with_reducible rfl))
          simp only [Act.put, List.setIfInBounds_toArray, List.set_cons_zero, List.set_cons_succ]
          refine wpAnyH_take (i := 17) (v := ?vu59) (by rw [List.getElem?_toArray]; rfl) (by kernel_rfl) (by kernel_rfl) (by kernel_rfl) ?ku59 (Or.inl ⟨by rfl, ?yu59⟩) hHeld ?ru59
          case ku59 => exact fun _ _ _ h => h
          case yu59 => (intro wz hSw; obtain ⟨s0, s1⟩ := hSw; go_simp; try (with_reducible rfl))
          simp only [Act.put, List.setIfInBounds_toArray, List.set_cons_zero, List.set_cons_succ]
          refine wpAnyH_take (i := 18) (v := ?vu60) (by rw [List.getElem?_toArray]; rfl) (by kernel_rfl) (by kernel_rfl) (by kernel_rfl) ?ku60 (Or.inl ⟨by rfl, ?yu60⟩) hHeld ?ru60
          case ku60 => exact fun _ _ _ h => h
          case yu60 => (intro wz hSw; obtain ⟨s0, s1⟩ := hSw; go_simp; try (with_reducible rfl))
          simp only [Act.put, List.setIfInBounds_toArray, List.set_cons_zero, List.set_cons_succ]
          refine wpAnyH_done (by kernel_rfl) ?_ _
          have FN := Lib.hid HQ.out.rel
          clear HQ hHeld
          go_wp2
          go_roundw
          case rel => exact ⟨k + 1, by go_num, Lib.hid (FN.out hlt)⟩
          case measure => simp [intOf]; omega
    · obtain rfl : k = N := by omega
      have FN : Hid (Below B W wr) := hbel
      clear HR hM l1 l0 hbel hs
      rcases Nat.lt_or_ge k n0 with h | h
      · obtain rfl : k = 40 := by omega
        have kb2 : (40 : Int) < (n0 : Int) := by omega
        have kb3 : ((40 : Nat) : Int) < (n0 : Int) := by omega
        clear hA1 hA2 hA3 HE HA
        go_wp2
        go_ret
        exact ⟨rfl, by rw [← HBd.out]; exact FN.out⟩
      · obtain rfl : k = n0 := by omega
        clear hA1 hA2 hA3 HE HA
        go_wp2
        go_ret
        exact ⟨rfl, by rw [← HBd.out]; exact FN.out⟩
end Go.Proofs.Ytiiclonklihaiaa

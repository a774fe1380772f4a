/-
  What order.Inverse and order.Then answer.
-/
import Derived.Test.YtaobaiifbmhegaaNtCut
namespace Go.Proofs.Ytaobaiifbmhegaa.nt
open Go.RowKit
set_option linter.unusedVariables false

/-- a made row of noughts -/
theorem made_own {w w2 : World} {n : Nat} (hown : w2.ownsRow w.heap.size 3 1 (.slice (some ⟨w.heap.size, 0, none⟩) n n) n (madeCells #[.int .i64 0] n).toList) (hb : Below w.heap.size w w2) : Own w.heap.size w.heap.size n n (List.replicate n 0) w w2 :=
  ⟨by simp, Nat.le_refl _, by rw [List.map_replicate, ← toList_madeCells_one]; exact hown, hb⟩
theorem made_own' {B : Nat} {w w1 w2 : World} {n : Nat} (hB : B ≤ w1.heap.size) (hown : w2.ownsRow B 3 1 (.slice (some ⟨w1.heap.size, 0, none⟩) n n) n (madeCells #[.int .i64 0] n).toList) (hb : Below B w w2) : Own B w1.heap.size n n (List.replicate n 0) w w2 :=
  ⟨by simp, hB, by rw [List.map_replicate, ← toList_madeCells_one]; exact hown, hb⟩
def InvP (p : List Int) (w : World) (e : Ending) (w' : World) : Prop := ∃ g l, e = .returned (.tuple #[.slice (some ⟨g, 0, none⟩) p.length p.length, .int .i64 0]) ∧ Own w.heap.size g p.length p.length l w w' ∧ ∀ j, j < p.length → nth l (nth p j).toNat = j
theorem inv_isP {p l : List Int} (h : isP p) (hl : l.length = p.length) (he : ∀ j, j < p.length → nth l (nth p j).toNat = j) : isP l := by
  have hm : ∀ i, i < l.length → ∃ j, j < p.length ∧ nth p j = (i : Int) ∧ nth l i = (j : Int) := fun i hi => by
    have := isP_mem h i (by omega)
    obtain ⟨j, hj, e⟩ := List.mem_iff_getElem.1 this
    have e' : nth p j = (i : Int) := by rw [nth_at p j hj]; exact e
    refine ⟨j, hj, e', ?_⟩
    have := he j hj
    rw [e'] at this
    simpa using this
  refine ok_isP ⟨fun i hi => ?_, fun i j hij hj he2 => ?_⟩
  · obtain ⟨j, hj, _, e⟩ := hm i hi
    rw [e]; omega
  · obtain ⟨a, ha, e1, e2⟩ := hm i (by omega)
    obtain ⟨b, hb, e3, e4⟩ := hm j hj
    rw [e2, e4] at he2
    have : a = b := by omega
    subst this
    omega
def ThenP (p q : List Int) (w : World) (e : Ending) (w' : World) : Prop := ∃ g l, e = .returned (.tuple #[.slice (some ⟨g, 0, none⟩) q.length q.length, .int .i64 0]) ∧ Own w.heap.size g q.length q.length l w w' ∧ ∀ j, j < q.length → nth l j = nth p (nth q j).toNat
open Classical in
set_option maxRecDepth 100000 in
set_option maxHeartbeats 2000000 in
theorem then_ok (p q : List Int) (hp : isP p) (hq : isP q) (hl : p.length = q.length) (hn : q.length ≤ 1000) (pa qa : Option Addr) (pc qc : Nat) (w : World) (h1 : Ints w pa p) (h2 : Ints w qa q) :
    Calls Try.prog 30 #[.slice pa p.length pc, .slice qa q.length qc] w (ThenP p q w) := by
  obtain ⟨i0, hi, hz0, hz1, hz2⟩ := info_parts info3
  have HIp := Lib.hid (is_any p (by omega) pa pc w h1)
  have HIq := Lib.hid (fun W (hW : Below w.heap.size w W) => is_any q hn qa qc W (h2.keep hW))
  have e1 : decide (isP p) = true := by simpa using hp
  have e2 : decide (isP q) = true := by simpa using hq
  rw [e1] at HIp
  rw [e2] at HIq
  have HI := Lib.hid (fun (W : World) (hW : Below w.heap.size w W) j (hj : j < q.length) => h1.keep hW j (by omega))
  have HJ := Lib.hid (fun (W : World) (hW : Below w.heap.size w W) j (hj : j < q.length) => h2.keep hW j hj)
  have HR := Lib.hid (fun j (hj : j < q.length) => (isP_ok hq).1 j hj)
  have HP := Lib.hid (show ∀ g l e w', e = .returned (.tuple #[.slice (some ⟨g, 0, none⟩) q.length q.length, .int .i64 0]) → Own w.heap.size g q.length q.length l w w' → (∀ j, j < q.length → nth l j = nth p (nth q j).toNat) → ThenP p q w e w' from fun g l e w' h1 h2 h3 => ⟨g, l, h1, h2, h3⟩)
  clear h1 h2 hp hq e1 e2
  rw [hl] at *
  clear hl
  generalize q.length = n at *
  go_enter Try.func30, Try.ntmps30
  go_wp2_with fail
  refine HIp.out.mono ?_; rintro e w0 ⟨rfl, hb0⟩
  have HB0 := Lib.hid hb0
  clear hb0 HIp
  go_wp2_with fail
  refine (HIq.out w0 HB0.out).mono ?_; rintro e w1 ⟨rfl, hb1⟩
  have HB := Lib.hid (bl_tr HB0.out hb1)
  clear hb1 HIq HB0
  go_wp2_with (at_make; refine wpList_make_full _ rfl _ _ 22 rfl w.heap.size 3 i0 (.int .i64 0) 1 Try.underlying22 hi hz0 hz1 .i64 .i64 _ _ n rfl rfl rfl rfl (by rw [hz2]; omega) (by unfold maxLen; omega) HB.out.size ?_)
  intro w2 hown hgrow
  have hb2 : Below w.heap.size w w2 := HB.out.grown hgrow HB.out.size (fun j hj => by cases hj)
  have A0 := Lib.hid (made_own' HB.out.size hown hb2)
  clear hown hgrow hb2
  generalize w1.heap.size = g at *
  go_wp2
  go_loopw [29] (fun i wr => ∃ (k : Nat) (l : List Int), k ≤ n ∧ i = .int .i64 k ∧ Hid (Own w.heap.size g n n l w wr) ∧ Hid (∀ j, j < k → nth l j = nth p (nth q j).toNat)) (fun i _ => n - (intOf i).toNat)
  case atStart => exact ⟨0, _, by omega, rfl, A0, fun j hj => absurd hj (by omega)⟩
  case round =>
    clear A0
    obtain ⟨k, l, hk, rfl, HO, HE⟩ := hrel
    by_cases hlt : k < n
    · obtain ⟨r1, r2⟩ := HR.out k hlt
      obtain ⟨b1, o1, rfl, l1, c1⟩ := HI.out wr HO.out.2.2.2 (nth q k).toNat (by omega)
      obtain ⟨b2, o2, rfl, l2, c2⟩ := HJ.out wr HO.out.2.2.2 k hlt
      have z1 := HO.out.cell k hlt
      have z2 := HO.out.frozen k
      have HN : Hid (Own w.heap.size g n n (l.set k (nth p (nth q k).toNat)) w (wr.setCell ⟨g, k, none⟩ (.int .i64 (nth p (nth q k).toNat)))) := HO.out.set k _
      have HE2 : Hid (∀ j, j < k + 1 → nth (l.set k (nth p (nth q k).toNat)) j = nth p (nth q j).toNat) := fun j hj => by
        rw [nth_set _ _ _ _ (by rw [HO.out.1]; omega)]
        rcases Nat.lt_or_ge j k with q' | q'
        · rw [if_neg (by omega)]
          exact HE.out j q'
        · obtain rfl : j = k := by omega
          rw [if_pos rfl]
      generalize nth p (nth q k).toNat = x at *
      generalize nth q k = t at *
      go_wp2
      go_roundw
      case rel => exact ⟨k + 1, _, by omega, by go_num, HN, HE2⟩
      case measure => simp [intOf]; omega
    · obtain rfl : n = k := by omega
      go_wp2
      go_ret2
      exact HP.out g l _ _ rfl HO.out HE.out
open Classical in
set_option maxHeartbeats 1000000 in
theorem then_no (p q : List Int) (h : ¬ (isP p ∧ isP q ∧ p.length = q.length)) (hn : q.length ≤ 1000) (hm : p.length ≤ 1000) (pa qa : Option Addr) (pc qc : Nat) (w : World) (h1 : Ints w pa p) (h2 : Ints w qa q) :
    Calls Try.prog 30 #[.slice pa p.length pc, .slice qa q.length qc] w fun e w' => e = .returned (.tuple #[.slice none 0 0, .int .i64 1]) ∧ Below w.heap.size w w' := by
  by_cases hl : p.length = q.length
  · have HIp := Lib.hid (is_any p hm pa pc w h1)
    have HIq := Lib.hid (fun W (hW : Below w.heap.size w W) => is_any q hn qa qc W (h2.keep hW))
    rw [hl] at HIp
    by_cases hp : isP p
    · have hq : ¬ isP q := fun hq => h ⟨hp, hq, hl⟩
      have e1 : decide (isP p) = true := by simpa using hp
      have e2 : decide (isP q) = false := by simpa using hq
      rw [e1] at HIp
      rw [e2] at HIq
      rw [hl]
      clear h1 h2 h hp hq e1 e2 hl
      generalize q.length = n at *
      go_enter Try.func30, Try.ntmps30
      go_wp2_with fail
      refine HIp.out.mono ?_; rintro e w0 ⟨rfl, hb0⟩
      have HB0 := Lib.hid hb0
      clear hb0
      go_wp2_with fail
      refine (HIq.out w0 HB0.out).mono ?_; rintro e w1 ⟨rfl, hb1⟩
      go_wp2
      go_ret2
      exact ⟨rfl, bl_tr HB0.out hb1⟩
    · have e1 : decide (isP p) = false := by simpa using hp
      rw [e1] at HIp
      rw [hl]
      clear h1 h2 h hp e1 hl HIq
      generalize q.length = n at *
      go_enter Try.func30, Try.ntmps30
      go_wp2_with fail
      refine HIp.out.mono ?_; rintro e w0 ⟨rfl, hb0⟩
      go_wp2
      go_ret2
      exact ⟨rfl, hb0⟩
  · clear h1 h2 h
    generalize p.length = m at *
    generalize q.length = n at *
    have e1 : ((m : Int) != (n : Int)) = true := by simp; omega
    have e2 : ((m : Int) == (n : Int)) = false := by simp; omega
    clear hl
    go_enter Try.func30, Try.ntmps30
    go_wp2
    go_ret2
    exact ⟨rfl, Below.refl _ _⟩
end Go.Proofs.Ytaobaiifbmhegaa.nt

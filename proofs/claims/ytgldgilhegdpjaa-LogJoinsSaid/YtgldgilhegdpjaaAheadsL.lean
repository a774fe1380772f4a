/-
  The walk through kurganlaw25.LogAheads.
-/
import Derived.Test.YtgldgilhegdpjaaLogA
import Derived.Deep.RegionWith
import Derived.Deep.DeepCutAuto
import Derived.Deep.Cut
import Derived.Test.YtgldgilhegdpjaaAp
namespace Go.Proofs.Ytgldgilhegdpjaa
open Go.RowKit
set_option linter.unusedVariables false
theorem Arg.ints {K : Nat} {w : World} {a : Option Addr} {n c : Nat} {l : List Int} (h : Arg K w a n c l) : Ints w a l := by
  rcases h with ⟨rfl, rfl, rfl, rfl⟩ | ⟨ad, rfl, rfl, q2, rfl⟩ | ⟨b, o, rfl, q1, q2, q3, q4, q5⟩
  · intro j hj; simp at hj
  · intro j hj; simp at hj
  · exact fun j hj => ⟨b, o, rfl, q3, q4 j hj⟩
theorem Arg.min {K : Nat} {w : World} {a : Option Addr} {n c : Nat} {l : List Int} (h : Arg K w a n c l) : Min.min (n : Int) (K : Int) = (l.length : Int) := by
  rcases h with ⟨rfl, rfl, rfl, rfl⟩ | ⟨ad, rfl, rfl, q2, rfl⟩ | ⟨b, o, rfl, q1, q2, q3, q4, q5⟩
  · simp only [List.length_nil]; omega
  · simp only [List.length_nil]; omega
  · omega
theorem ints_lit (w : World) (cs : Array Value) (l : List Int) (t : TypeId) (h : cs = (l.map (Value.int .i64)).toArray) : Ints (w.alloc (.cells cs t)) (some ⟨w.heap.size, 0, none⟩) l := by
  subst h
  intro j hj
  refine ⟨_, _, rfl, by simp, ?_⟩
  rw [Nat.zero_add]
  have hh : (w.alloc (.cells (l.map (Value.int .i64)).toArray t)).heap[w.heap.size]? = some (.cells (l.map (Value.int .i64)).toArray t) := by
    show (w.heap.push _)[w.heap.size]? = _
    simp
  unfold World.cell?
  rw [hh]
  simp [nth, hj]
theorem lit2 (x y : List Int) (n m : Nat) (w : World) (cs ds : Array Value) (h1 : cs = (x.map (Value.int .i64)).toArray) (h2 : ds = (y.map (Value.int .i64)).toArray) (hn : x.length = n) (hm : y.length = m) (hx : n ≤ 1000) (hy : m ≤ 1000) (b : Bool) (hb : ahd x y = b) :
    Calls Try.prog 14 #[.slice (some ⟨w.heap.size, 0, none⟩) n n, .slice (some ⟨w.heap.size + 1, 0, none⟩) m m] ((w.alloc (.cells cs 3)).alloc (.cells ds 3)) fun e w' => e = .returned (.bool b) ∧ ((w.alloc (.cells cs 3)).alloc (.cells ds 3)) = w' := by
  subst hn hm hb
  exact ahead_any x y hx hy _ _ _ _ _ ((ints_lit w cs x 3 h1).keep (bl_al (Below.refl _ _) _)) (by simpa using ints_lit (w.alloc (.cells cs 3)) ds y 3 h2)
theorem logs_any (w : World) : Calls Try.prog 9 #[] w fun e w' => e = .returned (.bool true) ∧ Below w.heap.size w w' := by
  have L1 := Lib.hid (lit2 [1] [1, 0] 1 2 w _ _ rfl rfl rfl rfl (by omega) (by omega) true rfl)
  go_enter Try.func9, Try.ntmps9
  go_wp2_with fail
  refine L1.out.mono ?_; rintro e w1 ⟨rfl, hw1⟩
  have hb : Below w.heap.size w w1 := hw1 ▸ bl_al (bl_al (Below.refl w.heap.size w) (.cells #[.int .i64 1] 3)) (.cells #[.int .i64 1, .int .i64 0] 3)
  clear hw1
  have L2 := Lib.hid (lit2 [2] [1, 5] 1 2 w1 _ _ rfl rfl rfl rfl (by omega) (by omega) false rfl)
  have hb := Lib.hid (bl_al (bl_al hb (.cells #[.int .i64 2] 3)) (.cells #[.int .i64 1, .int .i64 5] 3))
  clear L1
  go_wp2_with fail
  refine L2.out.mono ?_; rintro e w2 ⟨rfl, rfl⟩
  go_wp2
  go_ret
  exact ⟨rfl, hb.out⟩
theorem below_alloc2 {B : Nat} {a w : World} (h : Below B a w) (hB : B ≤ w.heap.size) (o : Obj) : Below B a (w.alloc o) := h.alloc hB o
set_option maxRecDepth 100000 in
set_option maxHeartbeats 16000000 in
theorem logAheads_walk (p : List Int) (a : Option Addr) (n c : Nat) (q : List Int) (b : Option Addr) (m d : Nat) (w : World) (hA : Arg 100 w a n c p) (hB : Arg 100 w b m d q) :
    Calls Try.prog 4 #[.slice a n c, .slice b m d] w fun e w' => e = .returned (.bool true) ∧ Below w.heap.size w w' := by
  have IA := Lib.hid hA.ints
  have IB := Lib.hid hB.ints
  have l1 := hA.len
  have l2 := hB.len
  have s1 := sl_run 100 w a n c p hA
  have s2 := sl_run2 100 w a n c p hA
  have s3 := sl_run 100 w b m d q hB
  have s4 := sl_run2 100 w b m d q hB
  have m1 : (if (100 : Int) < (n : Int) then 100 else (n : Int)) = (p.length : Int) := by have h : min (n : Int) 100 = (p.length : Int) := hA.min; split <;> omega
  have m2 : (if (100 : Int) < (m : Int) then 100 else (m : Int)) = (q.length : Int) := by have h : min (m : Int) 100 = (q.length : Int) := hB.min; split <;> omega
  have AP := Lib.hid (fun W (h : Below w.heap.size w W) => ahead_any p q (by omega) (by omega) a b c d W (IA.out.keep h) (IB.out.keep h))
  have AQ := Lib.hid (fun W (h : Below w.heap.size w W) => ahead_any q p (by omega) (by omega) b a d c W (IB.out.keep h) (IA.out.keep h))
  have RP := Lib.hid (fun W (h : Below w.heap.size w W) => rahead_any p q (by omega) (by omega) a b c d W (IA.out.keep h) (IB.out.keep h))
  have RQ := Lib.hid (fun W (h : Below w.heap.size w W) => rahead_any q p (by omega) (by omega) b a d c W (IB.out.keep h) (IA.out.keep h))
  have HX := Lib.hid (fun j (hj : j < p.length) => IA.out j hj)
  have HY := Lib.hid (fun j (hj : j < q.length) => IB.out j hj)
  have LG := Lib.hid logs_any
  have EQ := Lib.hid (show p = q ↔ p.length = q.length ∧ ∀ j, j < p.length → nth p j = nth q j from ⟨fun h => by subst h; exact ⟨rfl, fun _ _ => rfl⟩, fun h => nth_ext p q h.1 h.2⟩)
  have F : Hid ((ahd p q = true ∧ ahd q p = false ∧ ¬ p = q) ∨ (ahd p q = false ∧ ahd q p = true ∧ ¬ p = q) ∨ (ahd p q = false ∧ ahd q p = false ∧ p = q)) := Lib.hid (by
    have k1 := lexc_neg p q
    have k2 := lexc_zero p q
    unfold ahd
    rw [k1]
    generalize lexc p q = r at *
    by_cases h1 : r < 0
    · exact .inl ⟨decide_eq_true h1, decide_eq_false (by omega), fun h => by have := k2.mpr h; omega⟩
    · by_cases h2 : r = 0
      · exact .inr (.inr ⟨decide_eq_false h1, decide_eq_false (by omega), k2.mp h2⟩)
      · exact .inr (.inl ⟨decide_eq_false h1, decide_eq_true (by omega), fun h => by have := k2.mpr h; omega⟩))
  clear IA IB hA hB
  generalize p.length = lp at *
  generalize q.length = lq at *
  have d0 : Below w.heap.size w w.drew := bl_drew w
  go_enter Try.func4, Try.ntmps4
  go_upto_region 1 with fail
  go_cut [0, 1] (fun v0 v1 wx => v0 = .slice a lp c ∧ v1 = .slice b lq d ∧ Hid (Below w.heap.size w wx))
  case first =>
    clear HX HY LG EQ F AP AQ RP RQ
    go_region_with (fail)
    all_goals go_wp2
    all_goals go_meet
    all_goals exact ⟨rfl, rfl, d0⟩
  case rest =>
    obtain ⟨rfl, rfl, BX⟩ := hcut
    clear s1 s2 s3 s4 m1 m2 d0
    go_wp2_with fail
    refine (AP.out _ BX.out).mono ?_; rintro e w1 ⟨rfl, rfl⟩
    go_wp2_with fail
    refine (AQ.out _ BX.out).mono ?_; rintro e w1 ⟨rfl, rfl⟩
    clear AP AQ
    have sm0 : ∃ s : Bool, ((lp : Int) == (lq : Int)) = s ∧ Hid (s = true ↔ lp = lq) := ⟨_, rfl, Lib.hid (by simp only [beq_iff_eq]; omega)⟩
    obtain ⟨s0, hs0, HS0⟩ := sm0
    generalize ahd p q = A at *
    generalize ahd q p = B at *
    go_wp2_with fail
    go_loopw [7, 8] (fun v i wr => ∃ (k : Nat) (s : Bool), i = .int .i64 k ∧ v = .bool s ∧ k ≤ lp ∧ k ≤ lq ∧ Hid (s = true ↔ lp = lq ∧ ∀ j, j < k → nth p j = nth q j) ∧ Hid (Below w.heap.size w wr)) (fun _ i _ => lp - (intOf i).toNat)
    case atStart => exact ⟨0, s0, rfl, rfl, by omega, by omega, Lib.hid (by rw [HS0.out]; simp), BX⟩
    case round =>
      obtain ⟨k, s, rfl, rfl, hk, hkm, HE, BR⟩ := hrel
      clear BX HS0 hs0
      by_cases hlt : k < lp
      · have i1 : (k : Int) < (lp : Int) := by omega
        by_cases hlm : k < lq
        · have i2 : (k : Int) < (lq : Int) := by omega
          cases s with
          | false =>
            have HE2 : Hid (false = true ↔ lp = lq ∧ ∀ j, j < k + 1 → nth p j = nth q j) := Lib.hid ⟨fun h => by simp at h, fun h => HE.out.mpr ⟨h.1, fun j hj => h.2 j (by omega)⟩⟩
            go_wp2
            go_quiet (fail)
            go_wp2
            go_roundw
            case rel => exact ⟨k + 1, false, by go_num, rfl, by omega, by omega, HE2, BR.out.trans (bl_dn (Below.refl _ _) _)⟩
            case measure => simp [intOf]; omega
          | true =>
            obtain ⟨b1, o1, rfl, l1, c1⟩ := HX.out k hlt
            obtain ⟨b2, o2, rfl, l2, c2⟩ := HY.out k hlm
            have c1 := (BR.out.cell (p := ⟨b1, o1 + k, none⟩) l1).trans c1
            have c2 := (BR.out.cell (p := ⟨b2, o2 + k, none⟩) l2).trans c2
            obtain ⟨t, ht, HE2⟩ : ∃ t : Bool, (nth p k == nth q k) = t ∧ Hid (t = true ↔ lp = lq ∧ ∀ j, j < k + 1 → nth p j = nth q j) := ⟨_, rfl, Lib.hid ⟨fun h => ⟨(HE.out.mp rfl).1, fun j hj => by
              rcases Nat.lt_or_ge j k with h' | h'
              · exact (HE.out.mp rfl).2 j h'
              · obtain rfl : j = k := by omega
                simpa using h⟩, fun h => by simpa using h.2 k (by omega)⟩⟩
            generalize nth p k = x at *
            generalize nth q k = y at *
            go_wp2
            go_quiet (fail)
            go_wp2
            go_roundw
            case rel => exact ⟨k + 1, t, by go_num, rfl, by omega, by omega, HE2, BR.out.trans (bl_dn (Below.refl _ _) _)⟩
            case measure => simp [intOf]; omega
        · have i2 : ¬ (k : Int) < (lq : Int) := by omega
          have SP := Lib.hid (show s = true ↔ p = q from ⟨fun h => by have := (HE.out.mp h).1; omega, fun h => by have := (EQ.out.mp h).1; omega⟩)
          clear HE HX HY EQ
          have B1 := Lib.hid BR.out.size
          rcases F.out with ⟨rfl, rfl, hne⟩ | ⟨rfl, rfl, hne⟩ | ⟨rfl, rfl, heq⟩
          · obtain rfl : s = false := by cases s with | false => rfl | true => exact absurd (SP.out.mp rfl) hne
            clear F SP
            go_wp2_with fail
            refine (LG.out _).mono ?_; rintro e w2 ⟨rfl, b2⟩
            have B2 := Lib.hid (BR.out.trans (b2.mono B1.out))
            clear b2 LG
            go_wp2_with fail
            refine (RP.out _ B2.out).mono ?_; rintro e w3 ⟨rfl, m3, rfl⟩
            go_wp2_with fail
            refine (RQ.out _ (bl_dn B2.out m3)).mono ?_; rintro e w4 ⟨rfl, m4, rfl⟩
            go_wp2
            go_ret
            exact ⟨rfl, bl_dn B2.out _⟩
          · obtain rfl : s = false := by cases s with | false => rfl | true => exact absurd (SP.out.mp rfl) hne
            clear F SP
            go_wp2_with fail
            refine (LG.out _).mono ?_; rintro e w2 ⟨rfl, b2⟩
            have B2 := Lib.hid (BR.out.trans (b2.mono B1.out))
            clear b2 LG
            go_wp2_with fail
            refine (RP.out _ B2.out).mono ?_; rintro e w3 ⟨rfl, m3, rfl⟩
            go_wp2_with fail
            refine (RQ.out _ (bl_dn B2.out m3)).mono ?_; rintro e w4 ⟨rfl, m4, rfl⟩
            go_wp2
            go_ret
            exact ⟨rfl, bl_dn B2.out _⟩
          · obtain rfl : s = true := SP.out.mpr heq
            clear F SP
            go_wp2_with fail
            refine (LG.out _).mono ?_; rintro e w2 ⟨rfl, b2⟩
            have B2 := Lib.hid (BR.out.trans (b2.mono B1.out))
            clear b2 LG
            go_wp2_with fail
            refine (RP.out _ B2.out).mono ?_; rintro e w3 ⟨rfl, m3, rfl⟩
            go_wp2_with fail
            refine (RQ.out _ (bl_dn B2.out m3)).mono ?_; rintro e w4 ⟨rfl, m4, rfl⟩
            go_wp2
            go_ret
            exact ⟨rfl, bl_dn B2.out _⟩
      · have i1 : ¬ (k : Int) < (lp : Int) := by omega
        have SP := Lib.hid (show s = true ↔ p = q from ⟨fun h => EQ.out.mpr ⟨(HE.out.mp h).1, fun j hj => (HE.out.mp h).2 j (by omega)⟩, fun h => HE.out.mpr ⟨(EQ.out.mp h).1, fun j hj => (EQ.out.mp h).2 j (by omega)⟩⟩)
        clear HE HX HY EQ
        have B1 := Lib.hid BR.out.size
        rcases F.out with ⟨rfl, rfl, hne⟩ | ⟨rfl, rfl, hne⟩ | ⟨rfl, rfl, heq⟩
        · obtain rfl : s = false := by cases s with | false => rfl | true => exact absurd (SP.out.mp rfl) hne
          clear F SP
          go_wp2_with fail
          refine (LG.out _).mono ?_; rintro e w2 ⟨rfl, b2⟩
          have B2 := Lib.hid (BR.out.trans (b2.mono B1.out))
          clear b2 LG
          go_wp2_with fail
          refine (RP.out _ B2.out).mono ?_; rintro e w3 ⟨rfl, m3, rfl⟩
          go_wp2_with fail
          refine (RQ.out _ (bl_dn B2.out m3)).mono ?_; rintro e w4 ⟨rfl, m4, rfl⟩
          go_wp2
          go_ret
          exact ⟨rfl, bl_dn B2.out _⟩
        · obtain rfl : s = false := by cases s with | false => rfl | true => exact absurd (SP.out.mp rfl) hne
          clear F SP
          go_wp2_with fail
          refine (LG.out _).mono ?_; rintro e w2 ⟨rfl, b2⟩
          have B2 := Lib.hid (BR.out.trans (b2.mono B1.out))
          clear b2 LG
          go_wp2_with fail
          refine (RP.out _ B2.out).mono ?_; rintro e w3 ⟨rfl, m3, rfl⟩
          go_wp2_with fail
          refine (RQ.out _ (bl_dn B2.out m3)).mono ?_; rintro e w4 ⟨rfl, m4, rfl⟩
          go_wp2
          go_ret
          exact ⟨rfl, bl_dn B2.out _⟩
        · obtain rfl : s = true := SP.out.mpr heq
          clear F SP
          go_wp2_with fail
          refine (LG.out _).mono ?_; rintro e w2 ⟨rfl, b2⟩
          have B2 := Lib.hid (BR.out.trans (b2.mono B1.out))
          clear b2 LG
          go_wp2_with fail
          refine (RP.out _ B2.out).mono ?_; rintro e w3 ⟨rfl, m3, rfl⟩
          go_wp2_with fail
          refine (RQ.out _ (bl_dn B2.out m3)).mono ?_; rintro e w4 ⟨rfl, m4, rfl⟩
          go_wp2
          go_ret
          exact ⟨rfl, bl_dn B2.out _⟩
end Go.Proofs.Ytgldgilhegdpjaa

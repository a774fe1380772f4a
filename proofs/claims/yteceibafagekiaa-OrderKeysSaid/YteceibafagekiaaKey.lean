/-
  What order.ByKey and the reference's ByKey answer.
-/
import Derived.Test.YteceibafagekiaaSortK
import Derived.Test.YteceibafagekiaaIs2
import Derived.Test.YteceibafagekiaaCross
namespace Go.Proofs.Yteceibafagekiaa
open Go.RowKit
set_option linter.unusedVariables false
/-- how ByKey compares two places -/
def ckey (l : List Int) (x y : Int) : Int := cmpv (nth l x.toNat) (nth l y.toNat)
theorem ckey_bd (l : List Int) (x y : Int) : -1 ≤ ckey l x y ∧ ckey l x y ≤ 1 := by
  unfold ckey
  rcases (show nth l x.toNat < nth l y.toNat ∨ nth l y.toNat < nth l x.toNat ∨ nth l x.toNat = nth l y.toNat by omega) with h | h | h
  · rw [cmpv_lt h]; omega
  · rw [cmpv_gt h]; omega
  · rw [cmpv_eq h]; omega
/-- which place stands ahead -/
def ltK (l : List Int) (b a : Nat) : Bool := decide (nth l b < nth l a) || (decide (nth l b = nth l a) && decide (b < a))
theorem ltK_iff (l : List Int) (b a : Nat) : ltK l b a = true ↔ nth l b < nth l a ∨ (nth l b = nth l a ∧ b < a) := by unfold ltK; simp
theorem ltK_ord (n : Nat) (l : List Int) : LtO n (ltK l) :=
  ⟨fun a _ h => by rw [ltK_iff] at h; omega, fun a b c _ _ _ h k => by rw [ltK_iff] at *; omega, fun a b _ _ h => by rw [ltK_iff, ltK_iff]; omega⟩
theorem ckey_lt (l : List Int) (x y : Nat) (h : x < y) : ckey l y x < 0 ↔ ltK l y x = true := by
  rw [ltK_iff]
  unfold ckey
  simp only [Int.toNat_natCast]
  rcases (show nth l y < nth l x ∨ nth l x < nth l y ∨ nth l y = nth l x by omega) with q | q | q
  · rw [cmpv_lt q]; omega
  · rw [cmpv_gt q]; omega
  · rw [cmpv_eq q]; omega
attribute [irreducible] ckey ltK
theorem ckey_eq (l : List Int) (x y : Int) : ckey l x y = cmpv (nth l x.toNat) (nth l y.toNat) := by unfold ckey; rfl
set_option maxRecDepth 100000 in
set_option maxHeartbeats 2000000 in
theorem clos30_any (v : List Int) (hn : v.length ≤ 1000) (bv : Nat) (va : Option Addr) (vc : Nat) (W : World)
    (hbv : W.cell? ⟨bv, 0, none⟩ = some (.slice va v.length vc)) (h2 : Ints W va v)
    (x y : Int) (x0 : 0 ≤ x) (x1 : x < v.length) (y0 : 0 ≤ y) (y1 : y < v.length) :
    Calls Try.prog 30 #[.int .i64 x, .int .i64 y, .pointer (some ⟨bv, 0, none⟩)] W fun e w' => e = .returned (.int .i64 (ckey v x y)) ∧ Below W.heap.size W w' := by
  obtain ⟨b2, o2, rfl, l2, cvx⟩ := h2 x.toNat (by omega)
  obtain ⟨b2', o2', e2, _, cvy⟩ := h2 y.toNat (by omega)
  simp only [Option.some.injEq, Addr.mk.injEq, and_true] at e2
  obtain ⟨rfl, rfl⟩ := e2
  rw [ckey_eq]
  have HCM : Hid (∀ X, Calls Try.prog 27 #[.int .i64 (nth v x.toNat), .int .i64 (nth v y.toNat)] X fun e w' => e = .returned (.int .i64 (cmpv (nth v x.toNat) (nth v y.toNat))) ∧ w' = X) := fun X => (cmp_int (nth v x.toNat) (nth v y.toNat) X).mono fun _ _ h => ⟨h.1, h.2.symm⟩
  clear h2
  generalize cmpv (nth v x.toNat) (nth v y.toNat) = r at *
  generalize v.length = n at *
  generalize nth v x.toNat = vx at *
  generalize nth v y.toNat = vy at *
  go_enter Try.func30, Try.ntmps30
  go_wp2
  go_quiet ((go_at_call 27; exact Calls.quiet_of_same (HCM.out _)))
  go_wp2
  go_ret
  exact ⟨rfl, bl_dn (Below.refl _ _) _⟩
/-- what both answer -/
def KeyP (l : List Int) (W : World) (e : Ending) (W' : World) : Prop := ∃ (g cap : Nat) (T : List Int), e = .returned (.slice (some ⟨g, 0, none⟩) l.length cap) ∧ IsRk (ltK l) l.length T ∧ OnRk (ltK l) l.length T ∧ Ints W' (some ⟨g, 0, none⟩) T ∧ Below W.heap.size W W'
set_option maxHeartbeats 2000000 in
theorem byKey_any (l : List Int) (hn : l.length ≤ 1000) (la : Option Addr) (lc : Nat) (W : World) (h1 : Ints W la l) : Calls Try.prog 13 #[.slice la l.length lc] W (KeyP l W) := by
  have B0 := bl_al (Below.refl W.heap.size W) (.cells #[.slice la l.length lc] 22)
  have q1 : (W.alloc (.cells #[.slice la l.length lc] 22)).heap[W.heap.size]? = some (.cells #[.slice la l.length lc] 22 (0, 0)) := by
    show (W.heap.push (Obj.cells #[.slice la l.length lc] 22))[W.heap.size]? = some (Obj.cells #[.slice la l.length lc] 22)
    simp
  have HS := Lib.hid (fun (X : World) (hX : Below W.heap.size W X) (p1 : X.heap[W.heap.size]? = some (.cells #[.slice la l.length lc] 22 (0, 0))) =>
    sorted_anyK (ckey l) (ckey_bd l) l.length hn (ltK l) (ltK_ord _ l) (fun x y h _ => ckey_lt l x y h) (.pointer (some ⟨W.heap.size, 0, none⟩)) X (fun x y Y x0 x1 y0 y1 hY =>
      clos30_any l hn W.heap.size la lc Y (cell_of_row _ _ 0 _ _ _ ((hY.block _ (lt_hp p1)).trans p1)) ((h1.keep hX).keep hY) x y x0 x1 y0 y1))
  have Q1 := Lib.hid q1
  have HB0 := Lib.hid B0
  have HRes := Lib.hid (show ∀ (B g : Nat) (T : List Int) (X Y : World) (e : Ending), Below W.heap.size W Y → e = .returned (.slice (some ⟨g, 0, none⟩) l.length l.length) → IsRk (ltK l) l.length T → OnRk (ltK l) l.length T → Own B g l.length l.length T X Y → KeyP l W e Y from fun B g T X Y e hb he t1 t2 ho => ⟨g, l.length, T, he, t1, t2, ho.ints, hb⟩)
  clear h1 q1 B0
  generalize l.length = n at *
  go_enter Try.func13, Try.ntmps13
  go_wp2_with fail
  generalize (W.alloc (.cells #[.slice la n lc] 22)) = X at *
  refine (HS.out X HB0.out Q1.out).mono ?_; rintro e w2 ⟨g, T, rfl, t1, t2, ho⟩
  have HO := Lib.hid ho
  have H1 := Lib.hid t1
  have H2 := Lib.hid t2
  clear ho t1 t2
  go_wp2
  go_ret
  exact HRes.out _ g T X _ _ (HB0.out.trans (HO.out.2.2.2.mono HB0.out.size)) rfl H1.out H2.out HO.out
theorem keyP_of (l : List Int) (W : World) {w w' : World} {g : Nat} {Z : List Int} {e : Ending} (he : e = .returned (.slice (some ⟨g, 0, none⟩) l.length l.length)) (ho : Own W.heap.size g l.length l.length Z W w')
    (hz : ∀ a, a < l.length → nth Z (rko (ltK l) l.length a) = (a : Int)) : ∃ Z, e = .returned (.slice (some ⟨g, 0, none⟩) l.length l.length) ∧ IsRk (ltK l) l.length Z ∧ Ints w' (some ⟨g, 0, none⟩) Z ∧ Below W.heap.size W w' :=
  ⟨Z, he, ⟨ho.1, hz⟩, ho.ints, ho.2.2.2⟩
set_option maxRecDepth 100000 in
set_option maxHeartbeats 4000000 in
theorem refByKey_any (l : List Int) (hn : l.length ≤ 1000) (la : Option Addr) (lc : Nat) (w : World) (h1 : Ints w la l) :
    Calls Try.prog 14 #[.slice la l.length lc] w fun e w' => ∃ (g : Nat) (Z : List Int), e = .returned (.slice (some ⟨g, 0, none⟩) l.length l.length) ∧ IsRk (ltK l) l.length Z ∧ Ints w' (some ⟨g, 0, none⟩) Z ∧ Below w.heap.size w w' := by
  obtain ⟨i0, hi, hz0, hz1, hz2⟩ := info_parts info3
  have HI := Lib.hid (fun X (hb : Below w.heap.size w X) => h1.keep hb)
  have HLt := Lib.hid (fun b a => ltK_iff l b a)
  obtain ⟨P, hP⟩ : ∃ P : Nat → Nat → Nat, ∀ a b, P a b = cb (fun z => ltK l z a) b := ⟨_, fun _ _ => rfl⟩
  have HP0 : Hid (∀ a, P a 0 = 0) := fun a => by rw [hP, cb_zero]
  have HPy : Hid (∀ a b, ltK l b a = true → P a (b + 1) = P a b + 1) := fun a b h => by rw [hP, hP]; exact cb_yes h
  have HPn : Hid (∀ a b, ¬ ltK l b a = true → P a (b + 1) = P a b) := fun a b h => by rw [hP, hP]; exact cb_no h
  have HPl : Hid (∀ a b, P a b ≤ b) := fun a b => by rw [hP]; exact cb_le _ _
  have HPr : Hid (∀ a, P a l.length = rko (ltK l) l.length a) := fun a => hP a _
  have HRin : Hid (∀ a, a < l.length → rko (ltK l) l.length a < l.length) := fun a ha => rko_in (ltK_ord _ l) ha
  have HRne : Hid (∀ a b, a < l.length → b < l.length → a ≠ b → rko (ltK l) l.length a ≠ rko (ltK l) l.length b) := fun a b ha hb hab => rko_ne (ltK_ord _ l) ha hb hab
  have HEnd := Lib.hid (fun (g : Nat) (Z : List Int) (w' : World) (e : Ending) (he : e = .returned (.slice (some ⟨g, 0, none⟩) l.length l.length)) (ho : Own w.heap.size g l.length l.length Z w w') hz => keyP_of (w := w) l w he ho hz)
  have HIx : Hid (∀ X, Below w.heap.size w X → ∀ i, i < l.length → ∃ b o, la = some ⟨b, o, none⟩ ∧ X.cell? ⟨b, o + i, none⟩ = some (.int .i64 (nth l i))) := fun X hb i hi => by
    obtain ⟨b, o, e, _, c⟩ := HI.out X hb i hi
    exact ⟨b, o, e, c⟩
  clear h1 hP HI
  generalize hN : l.length = n at *
  clear hN
  go_enter Try.func14, Try.ntmps14
  go_wp2_with (at_make; refine wpList_make_full _ rfl _ _ 22 rfl w.heap.size 3 i0 (.int .i64 0) 1 Try.underlying22 hi hz0 hz1 .i64 .i64 _ _ n rfl rfl rfl rfl (by rw [hz2]; omega) (by unfold maxLen; omega) (Nat.le_refl _) ?_)
  intro w2 hown hgrow
  have A0 : Hid (Own w.heap.size w.heap.size n n (List.replicate n 0) w w2) := ⟨by simp, Nat.le_refl _, by rw [List.map_replicate, ← toList_madeCells_one]; exact hown, (Below.refl _ _).grown hgrow (Nat.le_refl _) (fun j hj => by cases hj)⟩
  clear hown hgrow
  obtain ⟨g, hg⟩ : ∃ g, g = w.heap.size := ⟨_, rfl⟩
  rw [← hg] at A0
  go_wp2
  rw [← hg]
  have HG := Lib.hid hg
  clear hg
  go_loopw [4] (fun i wr => ∃ (a : Nat) (Z : List Int), a ≤ n ∧ i = .int .i64 a ∧ Hid (∀ a', a' < a → nth Z (rko (ltK l) n a') = (a' : Int)) ∧ Hid (Own g g n n Z w wr)) (fun i _ => n - (intOf i).toNat)
  case atStart => exact ⟨0, _, by omega, rfl, fun a' h => by omega, A0⟩
  case round =>
    clear A0
    obtain ⟨a, Z, ha, rfl, HZ, HO⟩ := hrel
    by_cases hlt : a < n
    · go_wp2
      go_loopw [5, 6] (fun i j wr' => ∃ b : Nat, b ≤ n ∧ i = .int .i64 (P a b : Nat) ∧ j = .int .i64 b ∧ Hid (Own g g n n Z w wr')) (fun _ j _ => n - (intOf j).toNat)
      case atStart => exact ⟨0, by omega, by rw [HP0.out]; rfl, rfl, HO⟩
      case round =>
        clear HO
        obtain ⟨b, hb, rfl, rfl, HO⟩ := hrel
        have hPl := HPl.out a b
        by_cases hlb : b < n
        · have bel := HO.out.2.2.2
          rw [HG.out] at bel
          obtain ⟨bl, ol, ela, c1⟩ := HIx.out _ bel a hlt
          obtain ⟨bl', ol', ela', c2⟩ := HIx.out _ bel b hlb
          rw [ela] at ela'
          simp only [Option.some.injEq, Addr.mk.injEq, and_true] at ela'
          obtain ⟨rfl, rfl⟩ := ela'
          subst ela
          clear bel
          have hk := HLt.out b a
          by_cases h1 : nth l b < nth l a
          · have hy := HPy.out a b (hk.2 (Or.inl h1))
            clear hk
            generalize nth l b = vb at *
            generalize nth l a = va at *
            generalize P a b = pb at *
            go_wp2
            go_quiet (fail)
            go_wp2
            go_roundw
            case rel => exact ⟨b + 1, by omega, by rw [hy]; go_num, by go_num, (by exact (HO.out.keep ⟨rfl, rfl, rfl, Nat.le_refl _, fun _ _ => rfl⟩))⟩
            case measure => simp [intOf]; omega
          · by_cases h2 : nth l b = nth l a
            · by_cases h3 : b < a
              · have hy := HPy.out a b (hk.2 (Or.inr ⟨h2, h3⟩))
                have hbn : ((nth l b) == (nth l a)) = true := by simp [h2]
                have h3' : (b : Int) < (a : Int) := by omega
                clear hk
                generalize nth l b = vb at *
                generalize nth l a = va at *
                generalize P a b = pb at *
                subst h2
                go_wp2
                go_quiet (fail)
                go_wp2
                go_roundw
                case rel => exact ⟨b + 1, by omega, by rw [hy]; go_num, by go_num, (by exact (HO.out.keep ⟨rfl, rfl, rfl, Nat.le_refl _, fun _ _ => rfl⟩))⟩
                case measure => simp [intOf]; omega
              · have hy := HPn.out a b (fun h => by rcases hk.1 h with q | q <;> omega)
                have h3' : ¬ (b : Int) < (a : Int) := by omega
                clear hk
                generalize nth l b = vb at *
                generalize nth l a = va at *
                generalize hpb : P a b = pb at *
                subst h2
                go_wp2
                go_quiet (fail)
                go_wp2
                go_roundw
                case rel => exact ⟨b + 1, by omega, by rw [hy], by go_num, (by exact (HO.out.keep ⟨rfl, rfl, rfl, Nat.le_refl _, fun _ _ => rfl⟩))⟩
                case measure => simp [intOf]; omega
            · have hy := HPn.out a b (fun h => by rcases hk.1 h with q | q <;> omega)
              have hbn : ((nth l b) == (nth l a)) = false := by simpa using h2
              clear hk
              generalize nth l b = vb at *
              generalize nth l a = va at *
              generalize hpb : P a b = pb at *
              go_wp2
              go_quiet (fail)
              go_wp2
              go_roundw
              case rel => exact ⟨b + 1, by omega, by rw [hy], by go_num, (by exact (HO.out.keep ⟨rfl, rfl, rfl, Nat.le_refl _, fun _ _ => rfl⟩))⟩
              case measure => simp [intOf]; omega
        · obtain rfl : n = b := by omega
          have hr := HPr.out a
          have hri := HRin.out a hlt
          have HZ2 : Hid (∀ a', a' < a + 1 → nth (Z.set (rko (ltK l) n a) a) (rko (ltK l) n a') = (a' : Int)) := fun a' ha' => by
            rw [nth_set _ _ _ _ (by rw [HO.out.1]; exact hri)]
            by_cases e : a' = a
            · subst e; rw [if_pos rfl]
            · rw [if_neg (fun q => HRne.out a a' hlt (by omega) (fun q' => e q'.symm) q)]
              exact HZ.out a' (by omega)
          have HOs := Lib.hid (HO.out.set (rko (ltK l) n a) (a : Int))
          have fz := HO.out.frozen (rko (ltK l) n a)
          have cz := HO.out.cell (rko (ltK l) n a) hri
          rw [hr]
          generalize rko (ltK l) n a = r at *
          go_wp2
          go_roundw
          case rel => exact ⟨a + 1, _, by omega, by go_num, HZ2, HOs⟩
          case measure => simp [intOf]; omega
    · obtain rfl : n = a := by omega
      go_wp2
      go_ret
      obtain ⟨Z', h1, h2, h3, h4⟩ := HEnd.out g Z _ _ rfl (by rw [← HG.out]; exact HO.out) HZ.out
      exact ⟨g, Z', h1, h2, h3, h4⟩
end Go.Proofs.Yteceibafagekiaa

/-
  What the package's Scan answers.
-/
import Derived.Test.YtegieoajjfodcaaGreatDoorWide
import Derived.Lib.OthersKept
import Derived.Deep.Cut
namespace Go.Proofs.YtegieoajjfodcaaGreatDoor
open Go.RowKit
set_option linter.unusedVariables false
theorem row_not_iter {wr : World} {B : Nat} {T : TypeId} {k n p : Nat} {v : Value} {xs : List Value} {s : ByteArray} {ib : Nat} (HO : wr.ownsRow B T k v n xs) (hI : wr.heap[ib]? = some (.stringIter s p)) : some ib ≠ v.ownBlock := by
  rcases HO.2 with ⟨rfl, _⟩ | ⟨g, cap, cur, rfl, _, hg, _⟩
  · simp [Value.ownBlock]
  · intro h
    simp [Value.ownBlock] at h
    subst h
    rw [hI] at hg; cases hg
theorem it_kept {wr w2 : World} {B : Nat} {T : TypeId} {k n p : Nat} {v : Value} {xs : List Value} {s : ByteArray} {ib : Nat} {o : Obj} (HO : wr.ownsRow B T k v n xs) (hI : wr.heap[ib]? = some (.stringIter s p)) (hg : (wr.alloc o).grownBy w2 v.ownBlock) : w2.heap[ib]? = some (.stringIter s p) := by
  have hlt : ib < wr.heap.size := (Array.getElem?_eq_some_iff.1 hI).1
  exact (hg.block ib (by simp; omega) (row_not_iter HO hI)).trans ((heap_alloc_old wr o hlt).trans hI)
theorem it_up {wr w2 : World} {p : Nat} {s : ByteArray} {ib : Nat} (hI : wr.heap[ib]? = some (.stringIter s p)) (hb : Below wr.heap.size wr w2) : w2.heap[ib]? = some (.stringIter s p) :=
  (hb.block ib (Array.getElem?_eq_some_iff.1 hI).1).trans hI
theorem row_iterAt {wr : World} {B : Nat} {T : TypeId} {k n p : Nat} {v : Value} {xs : List Value} {s : ByteArray} {ib : Nat} (HO : wr.ownsRow B T k v n xs) (hI : wr.heap[ib]? = some (.stringIter s p)) (p' : Nat) : (wr.iterAt ib s p').ownsRow B T k v n xs := by
  refine ⟨HO.1, ?_⟩
  rcases HO.2 with h | ⟨g, cap, cur, rfl, h1, hg, h2⟩
  · exact .inl h
  · refine .inr ⟨g, cap, cur, rfl, h1, ?_, h2⟩
    rw [Lib.iterAt_other _ _ _ _ _ (fun h => by subst h; rw [hI] at hg; cases hg)]; exact hg
theorem iter_pos {wr : World} {p : Nat} {s : ByteArray} {ib : Nat} (hI : wr.heap[ib]? = some (.stringIter s p)) : wr.iterPos ib = p := by simp [World.iterPos, hI]
theorem own_tokL {w : World} {B : Nat} {v : Value} {l : List Tok} {t : Tok} (h : w.ownsRow B 65 4 v (l.length + 1) (encL l ++ encT t)) : w.ownsRow B 65 4 v (l ++ [t]).length (encL (l ++ [t])) := by
  rw [encL_app, List.length_append]; exact h
theorem below_iter {w wr : World} {B : Nat} (h : Below B w wr) (s : ByteArray) (p : Nat) {ib : Nat} (hb : B ≤ ib) : Below B w (wr.iterAt ib s p) := Lib.below_iterAt h hb s p
theorem ext_one (s : ByteArray) (p : Nat) (h : p < s.size) : s.extract p (p + 1) = ⟨#[s[p]'h]⟩ := by
  apply ByteArray.ext
  have h2 : p < s.data.size := h
  rw [ByteArray.data_extract]
  apply Array.ext
  · simp; omega
  · intro i h3 h4
    obtain rfl : i = 0 := by simp at h4; exact h4
    simp
    rfl
theorem utf_one {s : ByteArray} {p : Nat} (h : p < s.size) (hk : kb s p = 3) : Utf8.encode ((s[p]'h).toNat : Int) = s.extract p (p + 1) := by
  have ha : (s[p]'h).toNat < 128 := by
    rcases Nat.lt_or_ge (s[p]'h).toNat 128 with q | q
    · exact q
    · have := kb_high h q; omega
  rw [ext_one s p h]
  have v : Utf8.valid ((s[p]'h).toNat : Int) = true := by simp [Utf8.valid]; omega
  simp [Utf8.encode, v, ha]
theorem text_grow (s : ByteArray) (q p : Nat) (h1 : q < p) (h2 : p < s.size) : s.extract q p ++ s.extract p (p + 1) = s.extract q (p + 1) := by
  rw [ByteArray.extract_append_extract]
  congr 1 <;> omega
theorem it_set {W W2 : World} {B : Nat} {T : TypeId} {k n p g cap : Nat} {xs : List Value} {s : ByteArray} {ib : Nat} (HO : W.ownsRow B T k (.slice (some ⟨g, 0, none⟩) n cap) n xs) (hI : W.heap[ib]? = some (.stringIter s p)) (hg : W.grownBy W2 (some g)) : W2.heap[ib]? = some (.stringIter s p) :=
  (hg.block ib (Array.getElem?_eq_some_iff.1 hI).1 (row_not_iter HO hI)).trans hI
theorem below_set {w W W2 : World} {g : Nat} (hB : Below w.heap.size w W) (h : w.heap.size ≤ g) (hg : W.grownBy W2 (some g)) : Below w.heap.size w W2 :=
  ⟨hg.os.trans hB.os, hg.tape.trans hB.tape, hg.output.trans hB.output, Nat.le_trans hB.size hg.size, fun k hk => (hg.block k (by have := hB.size; omega) (by simp; omega)).trans (hB.block k hk)⟩
theorem own_len {W : World} {B : Nat} {T : TypeId} {n cap g : Nat} {l : List Tok} (hn : l.length = n) (h : W.ownsRow B T 4 (.slice (some ⟨g, 0, none⟩) n cap) n (encL l)) : W.ownsRow B T 4 (.slice (some ⟨g, 0, none⟩) n cap) l.length (encL l) := by
  rw [hn]; exact h
theorem encL_last (l0 : List Tok) (t : Tok) (j : Nat) (u : Value) (h : (encT t)[j]? = some u) : (encL (l0 ++ [t]))[l0.length * 4 + j]? = some u := by
  have hl : ∀ l : List Tok, (encL l).length = l.length * 4 := by
    intro l
    induction l with
    | nil => rfl
    | cons a l ih => simp [encL, encT] at ih ⊢; omega
  rw [encL_app, List.getElem?_append_right (by rw [hl]; omega), hl, show l0.length * 4 + j - l0.length * 4 = j by omega]; exact h
theorem encL_set (l0 : List Tok) (k : Int) (x y : ByteArray) (n : Int) (a : Nat) : (encL (l0 ++ [⟨k, x, n, a⟩])).set (l0.length * 4 + 1) (.string y) = encL (l0 ++ [⟨k, y, n, a⟩]) := by
  have hl : ∀ l : List Tok, (encL l).length = l.length * 4 := by
    intro l
    induction l with
    | nil => rfl
    | cons a l ih => simp [encL, encT] at ih ⊢; omega
  rw [encL_app, encL_app, List.set_append_right _ _ (by rw [hl]; omega), hl, show l0.length * 4 + 1 - l0.length * 4 = 1 by omega]; rfl
theorem ia_run (g n cap : Nat) (h1 : 0 < n) : ∀ W : World, (Instr.indexAt 57 (.slice (some ⟨g, 0, none⟩) n cap) (.int .i64 ((n : Int) - 1))).run Tryz.prog W = .ok (.pointer (some ⟨g, (n - 1) * 4, none⟩)) W := fun W => by
  have h3 : (1 : Int) ≤ n := by omega
  go_simp
  intro h; omega
theorem below_it0 (w : World) (s : ByteArray) : Below w.heap.size w (w.iter s 0) := ⟨rfl, rfl, rfl, by simp [World.iter], fun k hk => heap_alloc_old w _ hk⟩
theorem kb_cases (s : ByteArray) (p : Nat) : kb s p = 0 ∨ kb s p = 1 ∨ kb s p = 2 ∨ kb s p = 3 ∨ kb s p = 4 := by
  unfold kb kindv
  repeat' split
  all_goals simp
/-- the state of the loop -/
def LR (s : ByteArray) (w : World) (o bv : Value) (wr : World) : Prop :=
  ∃ (p : Nat) (b : Int) (l : List Tok), p ≤ s.size ∧ bv = .int .i64 b ∧ Hid (BSt s (SP s 0 []) b p l) ∧ Hid (wr.ownsRow w.heap.size 65 4 o l.length (encL l)) ∧ Hid (Below w.heap.size w wr) ∧ Hid (wr.heap[w.heap.size]? = some (.stringIter s p)) ∧ l.length ≤ p
set_option maxRecDepth 100000 in
set_option maxHeartbeats 2000000 in
theorem scan_any (s : ByteArray) (hs : s.size ≤ 65536) (w : World) : Calls Tryz.prog 19 #[.string s] w (ScP 65 w (SP s 0 [])) := by
  obtain ⟨i0, hi, hz0, hz1, hz2⟩ := info_parts infoL
  have g0 : ¬ (65536 : Int) < (s.size : Int) := by omega
  go_enter Tryz.func19, Tryz.ntmps19
  go_wp2
  go_loopw [5, 6] (fun o bv wr => LR s w o bv wr) (fun _ _ wr => s.size - wr.iterPos w.heap.size)
  case atStart => exact ⟨0, 1, [], by omega, rfl, Lib.hid (.inl ⟨rfl, rfl⟩), Lib.hid (World.ownsRow_nil _ _ _ _), Lib.hid (below_it0 w s), Lib.hid (World.iter_heap w s 0), by simp⟩
  case round =>
    obtain ⟨p, b, l, hp, rfl, HS, HO, HB, HI, hl⟩ := hrel
    by_cases hlt : p < s.size
    · have hnx : ∀ ty, (Instr.next (.pointer (some ⟨w.heap.size, 0, none⟩)) true ty).run Tryz.prog wr = _ := fun ty => Lib.run_next_any_at wr w.heap.size s p ty HI.out hlt
      obtain ⟨r, hr0⟩ : ∃ r, r = (Utf8.decode s p).1 := ⟨_, rfl⟩
      obtain ⟨wd, hw0⟩ : ∃ wd, wd = (Utf8.decode s p).2 := ⟨_, rfl⟩
      rw [← hr0, ← hw0] at hnx
      have HI2 := Lib.hid (Lib.iterAt_heap wr w.heap.size s p (p + wd) HI.out)
      have HO2 := Lib.hid (row_iterAt HO.out HI.out (p + wd))
      have HB2 := Lib.hid (below_iter HB.out s (p + wd) (Nat.le_refl _))
      have hwd := wide_le s p hlt
      rw [← hw0] at hwd
      have hms := iter_pos HI.out
      have hms2 := iter_pos HI2.out
      have hle := decode_le s p
      have KK := Lib.hid (fun W => kind_any ((Utf8.decode s p).1 : Int) (by omega) (by omega) W)
      rw [kind_rune hlt] at KK
      rw [← hr0] at KK
      rw [← hr0] at hle
      have hbk := BSt_kinds HS.out
      by_cases hb4 : b = 4
      · subst hb4
        by_cases hten : r = 10
        · have hkb : kb s p = 1 := by unfold kb; rw [rune_ten hlt (by rw [← hr0]; exact hten)]; simp [kindv]
          have hk := hkb
          have hw := wide_one hlt (by omega)
          have hw2 : wd = 1 := by rw [hw0, hw]
          have HN : Hid (BSt s (SP s 0 []) 1 (p + wd) l) := Lib.hid (by rw [hw2]; exact BSt_line HS.out hlt (rune_ten hlt (by rw [← hr0]; exact hten)))
          have hr : ((r : Int) == 10) = true := by simp; omega
          clear hw hkb KK
          have KK := Lib.hid (fun W => kind_any 10 (by omega) (by omega) W)
          rw [show kindv 10 = kb s p by rw [hk]; simp [kindv]] at KK
          subst hten
          clear hr
          have FF := Lib.hid (fun W => follows_any 4 1 (by omega) (by omega) W)
          rw [show fol 4 1 = true from by decide] at FF
          rw [hk] at KK
          clear hk
          clear hr0 hw0
          subst hw2
          go_wp2_with fail
          refine (KK.out _).mono ?_; rintro e w1 ⟨rfl, rfl⟩
          go_wp2_with fail
          refine (FF.out _).mono ?_; rintro e w1 ⟨rfl, rfl⟩
          go_wp2
          go_roundw
          case rel => exact ⟨_, 1, l, hwd.1, rfl, HN, HO2, HB2, HI2, by first | omega | (simp; omega)⟩
          case measure => rw [hms, hms2]; omega
        · have hr : ((r : Int) == 10) = false := by simp; omega
          have HN := Lib.hid (BSt_in4 (q := p + wd) HS.out (by rw [hw0]; exact nl_rune hlt (by rw [← hr0]; exact hten)))
          clear hr0 hw0
          go_wp2
          go_roundw
          case rel => exact ⟨_, 4, l, hwd.1, rfl, HN, HO2, HB2, HI2, by first | omega | (simp; omega)⟩
          case measure => rw [hms, hms2]; omega
      · have hkc := kb_cases s p
        rcases (show b = 1 ∨ b = 2 ∨ b = 3 by omega) with rfl | rfl | rfl
        · rcases hkc with hk | hk | hk | hk | hk
          · have HE := Lib.hid (BSt_other HS.out (by omega) hlt hk)
            have FF := Lib.hid (fun W => follows_any 1 0 (by omega) (by omega) W)
            rw [show fol 1 0 = false from by decide] at FF
            rw [hk] at KK
            clear hk
            clear hr0 hw0
            go_wp2_with fail
            refine (KK.out _).mono ?_; rintro e w1 ⟨rfl, rfl⟩
            go_wp2_with fail
            refine (FF.out _).mono ?_; rintro e w1 ⟨rfl, rfl⟩
            go_wp2
            go_ret3
            exact scp_bad HE.out HB2.out
          · have hw := wide_one hlt (by omega)
            have hw2 : wd = 1 := by rw [hw0, hw]
            have HN : Hid (BSt s (SP s 0 []) 1 (p + wd) l) := Lib.hid (by rw [hw2]; exact BSt_blank HS.out (by omega) hlt hk)
            clear hw
            have FF := Lib.hid (fun W => follows_any 1 1 (by omega) (by omega) W)
            rw [show fol 1 1 = true from by decide] at FF
            rw [hk] at KK
            clear hk
            clear hr0 hw0
            subst hw2
            go_wp2_with fail
            refine (KK.out _).mono ?_; rintro e w1 ⟨rfl, rfl⟩
            go_wp2_with fail
            refine (FF.out _).mono ?_; rintro e w1 ⟨rfl, rfl⟩
            go_wp2
            go_roundw
            case rel => exact ⟨_, 1, l, hwd.1, rfl, HN, HO2, HB2, HI2, by first | omega | (simp; omega)⟩
            case measure => rw [hms, hms2]; omega
          · have hw := wide_one hlt (by omega)
            have hw2 : wd = 1 := by rw [hw0, hw]
            have RD := Lib.hid (fun W => read_in s _ p hp rfl (by omega) W)
            by_cases he : (rdv (s.extract p s.size) p).2.2 = 0
            · have HN : Hid (BSt s (SP s 0 []) 2 (p + wd) (l ++ [⟨2, noText, (rdv (s.extract p s.size) p).1, p⟩])) := Lib.hid (by rw [hw2]; exact BSt_num HS.out (.inl rfl) (by omega) hlt hk he)
              simp only [he] at RD
              clear hw he
              generalize rdv (s.extract p s.size) p = rr at RD HN
              obtain ⟨v, y, z⟩ := rr
              simp only at RD HN
              have FF := Lib.hid (fun W => follows_any 1 2 (by omega) (by omega) W)
              rw [show fol 1 2 = true from by decide] at FF
              rw [hk] at KK
              clear hk
              clear hr0 hw0
              subst hw2
              go_wp2_with fail
              refine (KK.out _).mono ?_; rintro e w1 ⟨rfl, rfl⟩
              go_wp2_with fail
              refine (FF.out _).mono ?_; rintro e w1 ⟨rfl, rfl⟩
              go_wp2_with fail
              refine (RD.out _).mono ?_; rintro e w1 ⟨rfl, hb1⟩
              have HB1 := below_tr HB2.out hb1
              have HO1 := ownsRow_up HO2.out hb1
              have HI1 := it_up HI2.out hb1
              have hbs : w.heap.size ≤ (w1.alloc (.cells #[.int .i64 2, .string ⟨#[]⟩, .int .i64 v, .int .i64 p] 65)).heap.size := by rw [World.size_alloc]; have := HB1.size; omega
              go_wp2_with (at_builtin; refine wpList_append_own _ rfl _ _ 57 rfl w.heap.size 65 i0 (.agg #[.int .i64 0, .string ⟨#[]⟩, .int .i64 0, .int .i64 0]) 4 40 Tryz.underlying57 hi hz0 hz1 hz2 rfl (by decide) _ l.length _ rfl (HO1.alloc _) ⟨w1.heap.size, 0, none⟩ 1 1 [.int .i64 2, .string ⟨#[]⟩, .int .i64 v, .int .i64 p] rfl rfl (tok_new _ _ _ _ _ _) (by simp [Value.oneCell']) (by unfold maxLen; omega) (by omega) hbs ?_)
              intro v2 w2 ho2 hg2 _
              have HB3 := Lib.hid (below_app HB1 HO1 hg2)
              have HI3 := Lib.hid (it_kept HO1 HI1 hg2)
              have HO3 := Lib.hid (own_tokL (t := ⟨2, noText, v, p⟩) ho2)
              clear ho2 hg2 HB1 HO1 hbs hb1 HI1
              go_wp2
              go_roundw
              case rel => exact ⟨_, 2, _, hwd.1, rfl, HN, HO3, HB3, HI3, by first | omega | (simp; omega)⟩
              case measure => rw [hms, iter_pos HI3.out]; omega
            · have HE := Lib.hid (BSt_badnum HS.out rfl hlt hk he)
              have he' : ((rdv (s.extract p s.size) p).2.2 == 0) = false := by simpa using he
              clear hw he
              generalize rdv (s.extract p s.size) p = rr at RD HE he'
              obtain ⟨r1, r2, r3⟩ := rr
              simp only at RD HE he'
              have FF := Lib.hid (fun W => follows_any 1 2 (by omega) (by omega) W)
              rw [show fol 1 2 = true from by decide] at FF
              rw [hk] at KK
              clear hk
              clear hr0 hw0
              subst hw2
              go_wp2_with fail
              refine (KK.out _).mono ?_; rintro e w1 ⟨rfl, rfl⟩
              go_wp2_with fail
              refine (FF.out _).mono ?_; rintro e w1 ⟨rfl, rfl⟩
              go_wp2_with fail
              refine (RD.out _).mono ?_; rintro e w1 ⟨rfl, hb1⟩
              go_wp2
              go_ret3
              exact scp_bad HE.out (below_tr HB2.out hb1)
          · have hw := wide_one hlt (by omega)
            have hw2 : wd = 1 := by rw [hw0, hw]
            have HN : Hid (BSt s (SP s 0 []) 3 (p + wd) (l ++ [⟨1, s.extract p (p + 1), 0, p⟩])) := Lib.hid (by rw [hw2]; exact BSt_word HS.out rfl hlt hk)
            have hut := utf_one hlt hk
            rw [← (show ((r : Nat) : Int) = ((s[p]'hlt).toNat : Int) by rw [hr0, hw])] at hut
            have HO1 := HO2.out
            have hbs : w.heap.size ≤ ((wr.iterAt w.heap.size s (p + wd)).alloc (.cells #[.int .i64 1, .string (s.extract p (p + 1)), .int .i64 0, .int .i64 p] 65)).heap.size := by rw [World.size_alloc]; have := HB2.out.size; omega
            clear hw
            have FF := Lib.hid (fun W => follows_any 1 3 (by omega) (by omega) W)
            rw [show fol 1 3 = true from by decide] at FF
            rw [hk] at KK
            clear hk
            clear hr0 hw0
            subst hw2
            go_wp2_with fail
            refine (KK.out _).mono ?_; rintro e w1 ⟨rfl, rfl⟩
            go_wp2_with fail
            refine (FF.out _).mono ?_; rintro e w1 ⟨rfl, rfl⟩
            go_wp2_with (at_builtin; refine wpList_append_own _ rfl _ _ 57 rfl w.heap.size 65 i0 (.agg #[.int .i64 0, .string ⟨#[]⟩, .int .i64 0, .int .i64 0]) 4 40 Tryz.underlying57 hi hz0 hz1 hz2 rfl (by decide) _ l.length _ rfl (HO1.alloc _) ⟨(wr.iterAt w.heap.size s (p + 1)).heap.size, 0, none⟩ 1 1 [.int .i64 1, .string (s.extract p (p + 1)), .int .i64 0, .int .i64 p] rfl rfl (tok_new _ _ _ _ _ _) (by simp [Value.oneCell']) (by unfold maxLen; omega) (by omega) hbs ?_)
            intro v2 w2 ho2 hg2 _
            have HB3 := Lib.hid (below_app HB2.out HO1 hg2)
            have HI3 := Lib.hid (it_kept HO1 HI2.out hg2)
            have HO3 := Lib.hid (own_tokL (t := ⟨1, s.extract p (p + 1), 0, p⟩) ho2)
            clear ho2 hg2 HO1 hbs
            go_wp2
            go_roundw
            case rel => exact ⟨_, 3, _, hwd.1, rfl, HN, HO3, HB3, HI3, by first | omega | (simp; omega)⟩
            case measure => rw [hms, iter_pos HI3.out]; omega
          · have hw := wide_one hlt (by omega)
            have hw2 : wd = 1 := by rw [hw0, hw]
            have HN : Hid (BSt s (SP s 0 []) 4 (p + wd) l) := Lib.hid (by rw [hw2]; exact BSt_remark HS.out (by omega) hlt hk)
            clear hw
            have FF := Lib.hid (fun W => follows_any 1 4 (by omega) (by omega) W)
            rw [show fol 1 4 = true from by decide] at FF
            rw [hk] at KK
            clear hk
            clear hr0 hw0
            subst hw2
            go_wp2_with fail
            refine (KK.out _).mono ?_; rintro e w1 ⟨rfl, rfl⟩
            go_wp2_with fail
            refine (FF.out _).mono ?_; rintro e w1 ⟨rfl, rfl⟩
            go_wp2
            go_roundw
            case rel => exact ⟨_, 4, l, hwd.1, rfl, HN, HO2, HB2, HI2, by first | omega | (simp; omega)⟩
            case measure => rw [hms, hms2]; omega
        · rcases hkc with hk | hk | hk | hk | hk
          · have HE := Lib.hid (BSt_other HS.out (by omega) hlt hk)
            have FF := Lib.hid (fun W => follows_any 2 0 (by omega) (by omega) W)
            rw [show fol 2 0 = false from by decide] at FF
            rw [hk] at KK
            clear hk
            clear hr0 hw0
            go_wp2_with fail
            refine (KK.out _).mono ?_; rintro e w1 ⟨rfl, rfl⟩
            go_wp2_with fail
            refine (FF.out _).mono ?_; rintro e w1 ⟨rfl, rfl⟩
            go_wp2
            go_ret3
            exact scp_bad HE.out HB2.out
          · have hw := wide_one hlt (by omega)
            have hw2 : wd = 1 := by rw [hw0, hw]
            have HN : Hid (BSt s (SP s 0 []) 1 (p + wd) l) := Lib.hid (by rw [hw2]; exact BSt_blank HS.out (by omega) hlt hk)
            clear hw
            have FF := Lib.hid (fun W => follows_any 2 1 (by omega) (by omega) W)
            rw [show fol 2 1 = true from by decide] at FF
            rw [hk] at KK
            clear hk
            clear hr0 hw0
            subst hw2
            go_wp2_with fail
            refine (KK.out _).mono ?_; rintro e w1 ⟨rfl, rfl⟩
            go_wp2_with fail
            refine (FF.out _).mono ?_; rintro e w1 ⟨rfl, rfl⟩
            go_wp2
            go_roundw
            case rel => exact ⟨_, 1, l, hwd.1, rfl, HN, HO2, HB2, HI2, by first | omega | (simp; omega)⟩
            case measure => rw [hms, hms2]; omega
          · have hw := wide_one hlt (by omega)
            have hw2 : wd = 1 := by rw [hw0, hw]
            have HN : Hid (BSt s (SP s 0 []) 2 (p + wd) l) := Lib.hid (by rw [hw2]; exact BSt_in2 HS.out hlt hk)
            clear hw
            have FF := Lib.hid (fun W => follows_any 2 2 (by omega) (by omega) W)
            rw [show fol 2 2 = true from by decide] at FF
            rw [hk] at KK
            clear hk
            clear hr0 hw0
            subst hw2
            go_wp2_with fail
            refine (KK.out _).mono ?_; rintro e w1 ⟨rfl, rfl⟩
            go_wp2_with fail
            refine (FF.out _).mono ?_; rintro e w1 ⟨rfl, rfl⟩
            go_wp2
            go_roundw
            case rel => exact ⟨_, 2, l, hwd.1, rfl, HN, HO2, HB2, HI2, by first | omega | (simp; omega)⟩
            case measure => rw [hms, hms2]; omega
          · have HE := Lib.hid (BSt_bad23 HS.out hlt hk)
            have FF := Lib.hid (fun W => follows_any 2 3 (by omega) (by omega) W)
            rw [show fol 2 3 = false from by decide] at FF
            rw [hk] at KK
            clear hk
            clear hr0 hw0
            go_wp2_with fail
            refine (KK.out _).mono ?_; rintro e w1 ⟨rfl, rfl⟩
            go_wp2_with fail
            refine (FF.out _).mono ?_; rintro e w1 ⟨rfl, rfl⟩
            go_wp2
            go_ret3
            exact scp_bad HE.out HB2.out
          · have hw := wide_one hlt (by omega)
            have hw2 : wd = 1 := by rw [hw0, hw]
            have HN : Hid (BSt s (SP s 0 []) 4 (p + wd) l) := Lib.hid (by rw [hw2]; exact BSt_remark HS.out (by omega) hlt hk)
            clear hw
            have FF := Lib.hid (fun W => follows_any 2 4 (by omega) (by omega) W)
            rw [show fol 2 4 = true from by decide] at FF
            rw [hk] at KK
            clear hk
            clear hr0 hw0
            subst hw2
            go_wp2_with fail
            refine (KK.out _).mono ?_; rintro e w1 ⟨rfl, rfl⟩
            go_wp2_with fail
            refine (FF.out _).mono ?_; rintro e w1 ⟨rfl, rfl⟩
            go_wp2
            go_roundw
            case rel => exact ⟨_, 4, l, hwd.1, rfl, HN, HO2, HB2, HI2, by first | omega | (simp; omega)⟩
            case measure => rw [hms, hms2]; omega
        · rcases hkc with hk | hk | hk | hk | hk
          · have HE := Lib.hid (BSt_other HS.out (by omega) hlt hk)
            have FF := Lib.hid (fun W => follows_any 3 0 (by omega) (by omega) W)
            rw [show fol 3 0 = false from by decide] at FF
            rw [hk] at KK
            clear hk
            clear hr0 hw0
            go_wp2_with fail
            refine (KK.out _).mono ?_; rintro e w1 ⟨rfl, rfl⟩
            go_wp2_with fail
            refine (FF.out _).mono ?_; rintro e w1 ⟨rfl, rfl⟩
            go_wp2
            go_ret3
            exact scp_bad HE.out HB2.out
          · have hw := wide_one hlt (by omega)
            have hw2 : wd = 1 := by rw [hw0, hw]
            have HN : Hid (BSt s (SP s 0 []) 1 (p + wd) l) := Lib.hid (by rw [hw2]; exact BSt_blank HS.out (by omega) hlt hk)
            clear hw
            have FF := Lib.hid (fun W => follows_any 3 1 (by omega) (by omega) W)
            rw [show fol 3 1 = true from by decide] at FF
            rw [hk] at KK
            clear hk
            clear hr0 hw0
            subst hw2
            go_wp2_with fail
            refine (KK.out _).mono ?_; rintro e w1 ⟨rfl, rfl⟩
            go_wp2_with fail
            refine (FF.out _).mono ?_; rintro e w1 ⟨rfl, rfl⟩
            go_wp2
            go_roundw
            case rel => exact ⟨_, 1, l, hwd.1, rfl, HN, HO2, HB2, HI2, by first | omega | (simp; omega)⟩
            case measure => rw [hms, hms2]; omega
          · have HE := Lib.hid (BSt_bad32 HS.out hlt hk)
            have FF := Lib.hid (fun W => follows_any 3 2 (by omega) (by omega) W)
            rw [show fol 3 2 = false from by decide] at FF
            rw [hk] at KK
            clear hk
            clear hr0 hw0
            go_wp2_with fail
            refine (KK.out _).mono ?_; rintro e w1 ⟨rfl, rfl⟩
            go_wp2_with fail
            refine (FF.out _).mono ?_; rintro e w1 ⟨rfl, rfl⟩
            go_wp2
            go_ret3
            exact scp_bad HE.out HB2.out
          · have hw := wide_one hlt (by omega)
            have hw2 : wd = 1 := by rw [hw0, hw]
            obtain ⟨l0, q, rfl, hqp, hq16, hlong, hgrow⟩ := BSt_grow HS.out hlt hk
            have hut := utf_one hlt hk
            rw [← (show ((r : Nat) : Int) = ((s[p]'hlt).toNat : Int) by rw [hr0, hw])] at hut
            have htx := text_grow s q p hqp hlt
            have hln : (l0 ++ [(⟨1, s.extract q p, 0, q⟩ : Tok)]).length = l0.length + 1 := by simp
            have hln2 : (l0 ++ [(⟨1, s.extract q (p + 1), 0, q⟩ : Tok)]).length = l0.length + 1 := by simp
            obtain ⟨n1, hn1⟩ : ∃ n1, l0.length + 1 = n1 := ⟨_, rfl⟩
            have hj : l0.length = n1 - 1 := by omega
            rw [hln, hn1] at hl
            have HO3 := HO2.out
            rw [hln, hn1] at HO3
            obtain ⟨g, cap, hu, hg1, hg2⟩ := HO3.form (by omega)
            subst hu
            have IA := ia_run g n1 cap (by omega)
            have hd1 : (n1 - 1) * 4 + 1 < n1 * 4 := by omega
            have hd3 : (n1 - 1) * 4 + 3 < n1 * 4 := by omega
            have c1 := HO3.cellAt ((n1 - 1) * 4 + 1) hd1
            rw [← hj, encL_last l0 _ 1 (.string (s.extract q p)) rfl, hj] at c1
            have f1 := HO3.frozenAt ((n1 - 1) * 4 + 1)
            have HSS := HO3.stored ((n1 - 1) * 4 + 1) (.string (s.extract q (p + 1)))
            rw [← hj, encL_set, hj] at HSS
            obtain ⟨HO4, HG4⟩ := HSS
            have c2 := HO4.cellAt ((n1 - 1) * 4 + 1) hd1
            rw [← hj, encL_last l0 _ 1 (.string (s.extract q (p + 1))) rfl, hj] at c2
            have f2 := HO4.frozenAt ((n1 - 1) * 4 + 1)
            have c3 := HO4.cellAt ((n1 - 1) * 4 + 3) hd3
            rw [← hj, encL_last l0 _ 3 (.int .i64 q) rfl, hj] at c3
            have f3 := HO4.frozenAt ((n1 - 1) * 4 + 3)
            obtain ⟨a1, ha1⟩ : ∃ a1, (n1 - 1) * 4 = a1 := ⟨_, rfl⟩
            rw [ha1] at IA c1 f1 c2 f2 c3 f3 HO4 HG4
            have HI5 := Lib.hid (it_set HO3 HI2.out HG4)
            have HB5 := Lib.hid (below_set HB2.out hg1 HG4)
            have HO5 := Lib.hid (own_len (hln2.trans hn1) HO4)
            have hcat : ¬ 9223372036854775807 < (s.extract q p).size + (s.extract p (p + 1)).size := by simp only [ByteArray.size_extract]; omega
            obtain ⟨m, hm⟩ : ∃ m, m = p + 1 - q := ⟨_, rfl⟩
            have hsz : (s.extract q (p + 1)).size = m := by simp; omega
            have HL := Lib.hid hlong
            have HG := Lib.hid hgrow
            clear hw hlong hgrow HO3 hln hln2 HO HO2 HO4 HG4 hj hd1 hd3
            clear ha1
            have hn9 : (n1 : Int) - 1 < 70000 := by omega
            have hn8 : 1 ≤ (n1 : Int) := by omega
            have FF := Lib.hid (fun W => follows_any 3 3 (by omega) (by omega) W)
            rw [show fol 3 3 = true from by decide] at FF
            rw [hk] at KK
            clear hk
            clear hr0 hw0
            subst hw2
            go_wp2_with fail
            refine (KK.out _).mono ?_; rintro e w1 ⟨rfl, rfl⟩
            go_wp2_with fail
            refine (FF.out _).mono ?_; rintro e w1 ⟨rfl, rfl⟩
            clear hnx hbk hq16
            by_cases h16 : 16 < m
            · have HE := Lib.hid (HL.out (by omega))
              have h16' : (16 : Int) < (m : Int) := by omega
              clear hm hqp hms2 hn1
              generalize wr.iterAt w.heap.size s (p + 1) = W at *
              generalize s.extract q (p + 1) = tx at *
              generalize s.extract q p = tx0 at *
              generalize s.extract p (p + 1) = u at *
              go_wp2
              go_region
              go_wp2
              go_ret3
              exact scp_bad HE.out HB5.out.drew
            · have HN := Lib.hid (HG.out (by omega))
              obtain ⟨M, hM⟩ : ∃ M : Int, M = (m : Int) := ⟨_, rfl⟩
              have hszM : ((s.extract q (p + 1)).size : Int) = M := by rw [hsz, hM]
              have h16' : ¬ (16 : Int) < M := by omega
              clear h16 hM hsz
              have hl3 : l0.length + 1 ≤ p := by omega
              clear hm hqp hms2 hn1
              generalize wr.iterAt w.heap.size s (p + 1) = W at *
              generalize s.extract q (p + 1) = tx at *
              generalize s.extract q p = tx0 at *
              generalize s.extract p (p + 1) = u at *
              go_upto_region 17 with fail
              clear hcat htx hn9 hn8
              have hbb : decide ((16 : Int) < M) = false := by simpa using h16'
              clear h16'
              go_wp2
              go_roundw
              case rel => exact ⟨_, 3, _, hwd.1, rfl, HN, HO5, HB5, HI5, by first | omega | (simp; omega)⟩
              case measure => rw [hms, iter_pos HI5.out]; omega
          · have hw := wide_one hlt (by omega)
            have hw2 : wd = 1 := by rw [hw0, hw]
            have HN : Hid (BSt s (SP s 0 []) 4 (p + wd) l) := Lib.hid (by rw [hw2]; exact BSt_remark HS.out (by omega) hlt hk)
            clear hw
            have FF := Lib.hid (fun W => follows_any 3 4 (by omega) (by omega) W)
            rw [show fol 3 4 = true from by decide] at FF
            rw [hk] at KK
            clear hk
            clear hr0 hw0
            subst hw2
            go_wp2_with fail
            refine (KK.out _).mono ?_; rintro e w1 ⟨rfl, rfl⟩
            go_wp2_with fail
            refine (FF.out _).mono ?_; rintro e w1 ⟨rfl, rfl⟩
            go_wp2
            go_roundw
            case rel => exact ⟨_, 4, l, hwd.1, rfl, HN, HO2, HB2, HI2, by first | omega | (simp; omega)⟩
            case measure => rw [hms, hms2]; omega
    · have hnx : ∀ ty, (Instr.next (.pointer (some ⟨w.heap.size, 0, none⟩)) true ty).run Tryz.prog wr = _ := fun ty => Lib.run_next_end_at wr w.heap.size s p ty HI.out hlt
      have HE := Lib.hid (BSt_end HS.out (by omega))
      have hbs : w.heap.size ≤ (wr.alloc (.cells #[.int .i64 3, .string ⟨#[]⟩, .int .i64 0, .int .i64 s.size] 65)).heap.size := by rw [World.size_alloc]; have := HB.out.size; omega
      go_wp2_with (at_builtin; refine wpList_append_own _ rfl _ _ 57 rfl w.heap.size 65 i0 (.agg #[.int .i64 0, .string ⟨#[]⟩, .int .i64 0, .int .i64 0]) 4 40 Tryz.underlying57 hi hz0 hz1 hz2 rfl (by decide) _ l.length _ rfl (HO.out.alloc _) ⟨wr.heap.size, 0, none⟩ 1 1 [.int .i64 3, .string ⟨#[]⟩, .int .i64 0, .int .i64 s.size] rfl rfl (tok_new _ _ _ _ _ _) (by simp [Value.oneCell']) (by unfold maxLen; omega) (by omega) hbs ?_)
      intro v2 w2 ho2 hg2 _
      have HR := below_app HB.out HO.out hg2
      have HQ := Lib.hid (ScP_end HE.out ho2 HR)
      clear ho2 hg2 HR
      go_wp2
      go_ret3
      exact HQ.out
end Go.Proofs.YtegieoajjfodcaaGreatDoor

import Derived.Test.YtaobaiifbmhegaaFc

/-
  greedy: First of an assignment.
-/
namespace Go.Proofs.Ytaobaiifbmhegaa
open Go.RowKit
set_option linter.unusedVariables false
theorem row_aside {B g n cap : Nat} {t : TypeId} {xs : List Value} {wr : World} (h : wr.ownsRow B t 1 (.slice (some ⟨g, 0, none⟩) n cap) n xs) (g2 j : Nat) (v : Value) (hne : g2 ≠ g) : (wr.setCell ⟨g2, j, none⟩ v).ownsRow B t 1 (.slice (some ⟨g, 0, none⟩) n cap) n xs := by
  obtain ⟨a1, a2⟩ := h
  refine ⟨a1, ?_⟩
  rcases a2 with hn | ⟨g', cap', cur', hv, hg', hh, r⟩
  · exact Or.inl hn
  · refine Or.inr ⟨g', cap', cur', hv, hg', ?_, r⟩
    injection hv with hv _ _
    injection hv with hv
    injection hv with hv
    subst hv
    exact (Below.heap_setCell wr ⟨g2, j, none⟩ v g (by simpa using fun h => hne h.symm)).trans hh
theorem row_keep {B g n cap : Nat} {t : TypeId} {xs : List Value} {wr w1 : World} (h : wr.ownsRow B t 1 (.slice (some ⟨g, 0, none⟩) n cap) n xs) (hb : Below wr.heap.size wr w1) : w1.ownsRow B t 1 (.slice (some ⟨g, 0, none⟩) n cap) n xs := by
  obtain ⟨a1, a2⟩ := h
  refine ⟨a1, ?_⟩
  rcases a2 with hn | ⟨g', cap', cur', hv, hg', hh, r⟩
  · exact Or.inl hn
  · exact Or.inr ⟨g', cap', cur', hv, hg', (hb.block g' (lt_hp hh)).trans hh, r⟩
theorem row_blk {B g n cap : Nat} {t : TypeId} {xs : List Value} {wr : World} (h : wr.ownsRow B t 1 (.slice (some ⟨g, 0, none⟩) n cap) n xs) : B ≤ g ∧ ∃ cur, wr.heap[g]? = some (.cells cur t (0, 0)) := by
  rcases h.2 with ⟨h', _⟩ | ⟨g', cap', cur, h', hg, hh, _⟩
  · cases h'
  · injection h' with h' _ _
    injection h' with h'
    injection h' with h'
    subst h'
    exact ⟨hg, cur, hh⟩
/-- the first numbers in memory, and which columns are used -/
structure Am (B gx gu n : Nat) (X : List Int) (w0 wr : World) : Prop where
  own : od.Own B gx n n (X ++ List.replicate (n - X.length) 0) w0 wr
  used : wr.ownsRow B 4 1 (.slice (some ⟨gu, 0, none⟩) n n) n ((us n X).map Value.bool)
theorem Am.ne {B gx gu n : Nat} {X : List Int} {w0 wr : World} (h : Am B gx gu n X w0 wr) : gx ≠ gu := by
  obtain ⟨c1, h1⟩ := h.own.blk
  obtain ⟨_, c2, h2⟩ := row_blk h.used
  exact blk_ne h1 h2 (by decide)
theorem Am.bool {B gx gu n : Nat} {X : List Int} {w0 wr : World} (h : Am B gx gu n X w0 wr) (j : Nat) (hj : j < n) : wr.cell? ⟨gu, j, none⟩ = some (.bool (decide ((j : Int) ∈ X))) := by
  rw [h.used.cellAt j (by omega), List.getElem?_map, us_get hj]; rfl
theorem Am.keep {B gx gu n : Nat} {X : List Int} {w0 wr w1 : World} (h : Am B gx gu n X w0 wr) (hb : Below wr.heap.size wr w1) : Am B gx gu n X w0 w1 := ⟨h.own.keep hb, row_keep h.used hb⟩
theorem put_next (X : List Int) (n : Nat) (c : Int) (h : X.length < n) : (X ++ List.replicate (n - X.length) 0).set X.length c = (X ++ [c]) ++ List.replicate (n - (X ++ [c]).length) 0 := by
  obtain ⟨m, hm⟩ : ∃ m, n - X.length = m + 1 := ⟨n - X.length - 1, by omega⟩
  rw [List.set_append_right _ _ (Nat.le_refl _), Nat.sub_self, hm, List.replicate_succ, List.set_cons_zero, List.append_assoc]
  have : n - (X ++ [c]).length = m := by rw [List.length_append]; simp; omega
  rw [this]; rfl
theorem Am.next {B gx gu n : Nat} {X : List Int} {w0 wr : World} (h : Am B gx gu n X w0 wr) (t c : Nat) (ht : X.length = t) (htn : t < n) (hc : c < n) : Am B gx gu n (X ++ [(c : Int)]) w0 ((wr.setCell ⟨gx, t, none⟩ (.int .i64 c)).setCell ⟨gu, c, none⟩ (.bool true)) := by
  subst ht
  have hg := (row_blk h.used).1
  refine ⟨?_, ?_⟩
  · rw [← put_next X n c htn]
    exact (h.own.set X.length c).aside gu c (.bool true) (fun e => h.ne e.symm) hg
  · rw [← us_set hc, List.map_set]
    exact ((row_aside h.used gx X.length (.int .i64 c) h.ne).stored c (.bool true)).1
set_option maxRecDepth 100000 in
set_option maxHeartbeats 8000000 in
theorem assign_any (C : Int) (v3 v4 : Value) (cl : List (List Int)) (n : Nat) (hl : cl.length = n) (hp : rowsP cl) (hn : 1 ≤ n) (h64 : n ≤ 64) (ca : Option Addr) (cc : Nat) (w : World) (h : Rws w ca cl) :
    Calls Try.prog 33 #[.agg #[.int .i64 2, .int .i64 n, .int .i64 C, v3, v4, .slice ca n cc]] w fun e w' => ∃ g, e = .returned (.slice (some ⟨g, 0, none⟩) n n) ∧ od.Own w.heap.size g n n (asR 2 cl n) w w' := by
  obtain ⟨i0, hi, hz0, hz1, hz2⟩ := info_parts od.info3
  obtain ⟨j0, hj, hy0, hy1, hy2⟩ := info_parts od.info4
  have bA : Below w.heap.size w (w.alloc (ob 2 n C v3 v4 (.slice ca n cc))) := bl_al (Below.refl _ _) _
  have BA := Lib.hid bA
  have q0 := Lib.hid (heap_alloc_new w (ob 2 n C v3 v4 (.slice ca n cc)))
  have HB6 := Lib.hid (fun (W : World) (h : Below (w.alloc (ob 2 n C v3 v4 (.slice ca n cc))).heap.size (w.alloc (ob 2 n C v3 v4 (.slice ca n cc))) W) => box6 ((h.block _ (lt_hp q0.out)).trans q0.out))
  have HR : Hid (∀ (W : World) (hW : Below (w.alloc (ob 2 n C v3 v4 (.slice ca n cc))).heap.size (w.alloc (ob 2 n C v3 v4 (.slice ca n cc))) W) (t : Nat), t < n → ∃ b o aj cj, ca = some ⟨b, o, none⟩ ∧ W.cell? ⟨b, o + t, none⟩ = some (.slice aj n cj) ∧ Ints W aj (cl[t]?.getD [])) := fun W hW t ht => by
    obtain ⟨b, o, aj, cj, e1, e2, e3, e4, _⟩ := ((h.keep bA).keep hW) t (by omega)
    rw [hp t (by omega), hl] at e3
    exact ⟨b, o, aj, cj, e1, e3, e4⟩
  have HS : Hid (∀ t, t < n → asR 2 cl (t + 1) = asR 2 cl t ++ [chR (cl[t]?.getD []) (asR 2 cl t) n]) := fun t ht => by
    rw [as_succ (by omega), row_asg, (as_good 2 cl t (by omega)).len, hl]
  have HCh : Hid (∀ t, t < n → ∃ c : Nat, chR (cl[t]?.getD []) (asR 2 cl t) n = (c : Int) ∧ c < n) := fun t ht => by
    have a := as_new (K := 2) (cl := cl) (t := t) (by omega)
    rw [row_asg, (as_good 2 cl t (by omega)).len, hl] at a
    exact ⟨(chR (cl[t]?.getD []) (asR 2 cl t) n).toNat, by omega, by omega⟩
  have HLn := Lib.hid (fun t (ht : t ≤ n) => (as_good 2 cl t (by omega)).len)
  have HRl := Lib.hid (fun t (ht : t < n) => (hp t (by omega)).trans hl)
  have H00 := Lib.hid (as_zero 2 cl)
  have hrefl := Lib.hid (Below.refl (w.alloc (ob 2 n C v3 v4 (.slice ca n cc))).heap.size (w.alloc (ob 2 n C v3 v4 (.slice ca n cc))))
  have HG : Hid (∀ g W', od.Own (w.alloc (ob 2 n C v3 v4 (.slice ca n cc))).heap.size g n n (asR 2 cl n) (w.alloc (ob 2 n C v3 v4 (.slice ca n cc))) W' → od.Own w.heap.size g n n (asR 2 cl n) w W') := fun g W' h => h.down bA bA.size
  unfold ob at *
  clear h bA hp hl q0
  go_enter Try.func33, Try.ntmps33
  go_upto_region 1 with fail
  generalize w.alloc (.cells #[.int .i64 2, .int .i64 n, .int .i64 C, v3, v4, .slice ca n cc] 25) = X at *
  obtain ⟨e0, e1, e2, e3, e4, e5⟩ := HB6.out X hrefl.out
  go_wp2_with (at_make; refine wpList_make_full _ rfl _ _ 22 rfl X.heap.size 3 i0 (.int .i64 0) 1 Try.underlying22 hi hz0 hz1 .i64 .i64 _ _ n rfl rfl rfl rfl (by rw [hz2]; omega) (by unfold maxLen; omega) (Nat.le_refl _) ?_)
  intro w2 hown hgrow
  have A0 : Hid (od.Own X.heap.size X.heap.size n n (List.replicate n 0) X w2) := ⟨by simp, Nat.le_refl _, by rw [List.map_replicate, ← toList_madeCells_one]; exact hown, (Below.refl _ _).grown hgrow (Nat.le_refl _) (fun j hj => by cases hj)⟩
  clear hown hgrow e0 e1 e2 e3 e4 e5 hrefl
  obtain ⟨e0, e1, e2, e3, e4, e5⟩ := HB6.out w2 A0.out.2.2.2
  obtain ⟨gx, hgx⟩ : ∃ gx, gx = X.heap.size := ⟨_, rfl⟩
  rw [← hgx]
  have HGX := Lib.hid hgx
  clear hgx
  go_wp2_with (at_make; refine wpList_make_full _ rfl _ _ 61 rfl w2.heap.size 4 j0 (.bool false) 1 Try.underlying61 hj hy0 hy1 .i64 .i64 _ _ n rfl rfl rfl rfl (by rw [hy2]; omega) (by unfold maxLen; omega) (Nat.le_refl _) ?_)
  intro w3 hown hgrow
  have hb3 : Below w2.heap.size w2 w3 := (Below.refl _ _).grown hgrow (Nat.le_refl _) (fun j hj => by cases hj)
  have A1 : Hid (Am X.heap.size gx w2.heap.size n (asR 2 cl 0) X w3) := by
    refine ⟨?_, ?_⟩
    · rw [H00.out, List.nil_append]; show od.Own _ _ _ _ (List.replicate (n - 0) 0) _ _; rw [Nat.sub_zero, HGX.out]; exact A0.out.keep hb3
    · rw [H00.out, us_nil, List.map_replicate, ← toList_madeCells_one]
      refine ⟨hown.1, ?_⟩
      rcases hown.2 with hh | ⟨g', cap', cur', hv, hg', hh, r⟩
      · exact Or.inl hh
      · exact Or.inr ⟨g', cap', cur', hv, Nat.le_trans A0.out.2.2.2.size hg', hh, r⟩
  clear hown hgrow e0 e1 e2 e3 e4 e5 hb3 A0
  obtain ⟨e0, e1, e2, e3, e4, e5⟩ := HB6.out w3 A1.out.own.2.2.2
  generalize w2.heap.size = gu at *
  go_wp2
  go_loopw [16] (fun i wr => ∃ t : Nat, t ≤ n ∧ i = .int .i64 t ∧ Hid (Am X.heap.size gx gu n (asR 2 cl t) X wr)) (fun i _ => n - (intOf i).toNat)
  case atStart => exact ⟨0, by omega, rfl, A1⟩
  case round =>
    clear A1 e0 e1 e2 e3 e4 e5
    obtain ⟨t, ht, rfl, HP⟩ := hrel
    by_cases hlt : t < n
    · have q1 : (t : Int) < (n : Int) := by omega
      have q0 : (0 : Int) ≤ (t : Int) := by omega
      obtain ⟨b, o, aj, cj, rfl, d1, d2⟩ := HR.out wr HP.out.own.2.2.2 t hlt
      obtain ⟨c, hc, hcn⟩ := HCh.out t hlt
      have CH := Lib.hid (cheap_any n (cl[t]?.getD []) (asR 2 cl t) (HRl.out t hlt) aj cj gu n wr d2 (fun j hj => HP.out.bool j hj) (by omega))
      rw [hc] at CH
      have HN : Hid (Am X.heap.size gx gu n (asR 2 cl (t + 1)) X ((wr.setCell ⟨gx, t, none⟩ (.int .i64 c)).setCell ⟨gu, c, none⟩ (.bool true))) := by
        show Am _ _ _ _ _ _ _
        rw [HS.out t hlt, hc]; exact HP.out.next t c (HLn.out t ht) hlt hcn
      have hgg := HP.out.ne
      have f1 := HP.out.own.frozen t
      have k1 := HP.out.own.cell t (by omega)
      have f2 := HP.out.used.frozenAt c
      have k2 := HP.out.bool c hcn
      have c1 : (c : Int) < (n : Int) := by omega
      have c0 : (0 : Int) ≤ (c : Int) := by omega
      clear HP d2 hc
      generalize od.nth (asR 2 cl t ++ List.replicate (n - (asR 2 cl t).length) 0) t = z at *
      go_wp2_with fail
      refine CH.out.mono ?_; rintro e w4 ⟨rfl, rfl⟩
      go_wp2
      go_roundw
      case rel => exact ⟨t + 1, by omega, by go_num, HN⟩
      case measure => simp [intOf]; omega
    · obtain rfl : n = t := by omega
      have HF : Hid (od.Own w.heap.size gx n n (asR 2 cl n) w wr) := by
        have := HP.out.own
        rw [HLn.out n (Nat.le_refl _), Nat.sub_self] at this
        exact HG.out gx wr (by simpa using this)
      clear HP
      go_wp2
      first
        | exact ⟨gx, rfl, HF.out⟩
        | (go_ret; exact ⟨gx, rfl, HF.out⟩)
        | (go_at_K; go_wp2; exact ⟨gx, rfl, HF.out⟩)
end Go.Proofs.Ytaobaiifbmhegaa

/-
  greedy: First of a tour; First of every problem.
-/
namespace Go.Proofs.Ytaobaiifbmhegaa
open Go.RowKit
set_option linter.unusedVariables false
set_option maxRecDepth 100000 in
set_option maxHeartbeats 8000000 in
theorem walk_any (C : Int) (v3 v4 : Value) (cl : List (List Int)) (n : Nat) (hl : cl.length = n) (hp : rowsP cl) (hn : 1 ≤ n) (h64 : n ≤ 64) (ca : Option Addr) (cc : Nat) (w : World) (h : Rws w ca cl) :
    Calls Try.prog 34 #[.agg #[.int .i64 3, .int .i64 n, .int .i64 C, v3, v4, .slice ca n cc]] w fun e w' => ∃ g, e = .returned (.slice (some ⟨g, 0, none⟩) n n) ∧ od.Own w.heap.size g n n (asR 3 cl n) w w' := by
  obtain ⟨i0, hi, hz0, hz1, hz2⟩ := info_parts od.info3
  obtain ⟨j0, hj, hy0, hy1, hy2⟩ := info_parts od.info4
  have bA : Below w.heap.size w (w.alloc (ob 3 n C v3 v4 (.slice ca n cc))) := bl_al (Below.refl _ _) _
  have BA := Lib.hid bA
  have q0 := Lib.hid (heap_alloc_new w (ob 3 n C v3 v4 (.slice ca n cc)))
  have HB6 := Lib.hid (fun (W : World) (h : Below (w.alloc (ob 3 n C v3 v4 (.slice ca n cc))).heap.size (w.alloc (ob 3 n C v3 v4 (.slice ca n cc))) W) => box6 ((h.block _ (lt_hp q0.out)).trans q0.out))
  have HR : Hid (∀ (W : World) (hW : Below (w.alloc (ob 3 n C v3 v4 (.slice ca n cc))).heap.size (w.alloc (ob 3 n C v3 v4 (.slice ca n cc))) W) (t : Nat), t < n → ∃ b o aj cj, ca = some ⟨b, o, none⟩ ∧ W.cell? ⟨b, o + t, none⟩ = some (.slice aj n cj) ∧ Ints W aj (cl[t]?.getD [])) := fun W hW t ht => by
    obtain ⟨b, o, aj, cj, e1, e2, e3, e4, _⟩ := ((h.keep bA).keep hW) t (by omega)
    rw [hp t (by omega), hl] at e3
    exact ⟨b, o, aj, cj, e1, e3, e4⟩
  have HPv : Hid (∀ t, 1 ≤ t → t ≤ n → ∃ p : Nat, nth (asR 3 cl t) (t - 1) = (p : Int) ∧ p < n) := fun t h1 ht => by
    have G := as_good 3 cl t (by omega)
    have hm : nth (asR 3 cl t) (t - 1) ∈ asR 3 cl t := by
      have : t - 1 < (asR 3 cl t).length := by rw [G.len]; omega
      rw [nth_at _ _ this]; exact List.getElem_mem _
    have r := G.rng _ hm
    exact ⟨(nth (asR 3 cl t) (t - 1)).toNat, by omega, by omega⟩
  have HS : Hid (∀ (t p : Nat), 1 ≤ t → t < n → nth (asR 3 cl t) (t - 1) = (p : Int) → asR 3 cl (t + 1) = asR 3 cl t ++ [chR (cl[p]?.getD []) (asR 3 cl t) n]) := fun t p h1 ht hp => by
    rw [as_succ (by omega), row_tour, (as_good 3 cl t (by omega)).len, hl, hp]; rfl
  have HCh : Hid (∀ (t p : Nat), 1 ≤ t → t < n → nth (asR 3 cl t) (t - 1) = (p : Int) → ∃ c : Nat, chR (cl[p]?.getD []) (asR 3 cl t) n = (c : Int) ∧ c < n) := fun t p h1 ht hp => by
    have a := as_new (K := 3) (cl := cl) (t := t) (by omega)
    rw [row_tour, (as_good 3 cl t (by omega)).len, hl, hp] at a
    have e : ((p : Int)).toNat = p := by omega
    rw [e] at a
    exact ⟨(chR (cl[p]?.getD []) (asR 3 cl t) n).toNat, by omega, by omega⟩
  have HLn := Lib.hid (fun t (ht : t ≤ n) => (as_good 3 cl t (by omega)).len)
  have HRl := Lib.hid (fun t (ht : t < n) => (hp t (by omega)).trans hl)
  have H00 := Lib.hid (as_one cl)
  have hrefl := Lib.hid (Below.refl (w.alloc (ob 3 n C v3 v4 (.slice ca n cc))).heap.size (w.alloc (ob 3 n C v3 v4 (.slice ca n cc))))
  have HG : Hid (∀ g W', od.Own (w.alloc (ob 3 n C v3 v4 (.slice ca n cc))).heap.size g n n (asR 3 cl n) (w.alloc (ob 3 n C v3 v4 (.slice ca n cc))) W' → od.Own w.heap.size g n n (asR 3 cl n) w W') := fun g W' h => h.down bA bA.size
  unfold ob at *
  have HXs := Lib.hid (lt_hp q0.out)
  clear h bA hp hl q0
  go_enter Try.func34, Try.ntmps34
  go_upto_region 1 with fail
  generalize w.alloc (.cells #[.int .i64 3, .int .i64 n, .int .i64 C, v3, v4, .slice ca n cc] 25) = X at *
  obtain ⟨e0, e1, e2, e3, e4, e5⟩ := HB6.out X hrefl.out
  go_wp2_with (at_make; refine wpList_make_full _ rfl _ _ 22 rfl X.heap.size 3 i0 (.int .i64 0) 1 Try.underlying22 hi hz0 hz1 .i64 .i64 _ _ n rfl rfl rfl rfl (by rw [hz2]; omega) (by unfold maxLen; omega) (Nat.le_refl _) ?_)
  intro w2 hown hgrow
  have A0 : Hid (od.Own X.heap.size X.heap.size n n (List.replicate n 0) X w2) := ⟨by simp, Nat.le_refl _, by rw [List.map_replicate, ← toList_madeCells_one]; exact hown, (Below.refl _ _).grown hgrow (Nat.le_refl _) (fun j hj => by cases hj)⟩
  clear hown hgrow e0 e1 e2 e3 e4 e5 hrefl
  obtain ⟨e0, e1, e2, e3, e4, e5⟩ := HB6.out w2 A0.out.2.2.2
  obtain ⟨gx, hgx⟩ : ∃ gx, gx = X.heap.size := ⟨_, rfl⟩
  rw [← hgx]
  have HGX := Lib.hid hgx
  clear hgx
  go_wp2_with (at_make; refine wpList_make_full _ rfl _ _ 61 rfl w2.heap.size 4 j0 (.bool false) 1 Try.underlying61 hj hy0 hy1 .i64 .i64 _ _ n rfl rfl rfl rfl (by rw [hy2]; omega) (by unfold maxLen; omega) (Nat.le_refl _) ?_)
  intro w3 hown hgrow
  have hb3 : Below w2.heap.size w2 w3 := (Below.refl _ _).grown hgrow (Nat.le_refl _) (fun j hj => by cases hj)
  have A1 : Hid (Am X.heap.size gx w2.heap.size n [] X w3) := by
    refine ⟨?_, ?_⟩
    · rw [List.nil_append]; show od.Own _ _ _ _ (List.replicate (n - 0) 0) _ _; rw [Nat.sub_zero, HGX.out]; exact A0.out.keep hb3
    · rw [us_nil, List.map_replicate, ← toList_madeCells_one]
      refine ⟨hown.1, ?_⟩
      rcases hown.2 with hh | ⟨g', cap', cur', hv, hg', hh, r⟩
      · exact Or.inl hh
      · exact Or.inr ⟨g', cap', cur', hv, Nat.le_trans A0.out.2.2.2.size hg', hh, r⟩
  clear hown hgrow e0 e1 e2 e3 e4 e5 hb3 A0
  obtain ⟨e0, e1, e2, e3, e4, e5⟩ := HB6.out w3 A1.out.own.2.2.2
  generalize w2.heap.size = gu at *
  have A2 : Hid (Am X.heap.size gx gu n (asR 3 cl 1) X (w3.setCell ⟨gu, 0, none⟩ (.bool true))) := by
    have hg := (row_blk A1.out.used).1
    refine ⟨?_, ?_⟩
    · rw [H00.out]
      have e : ([0] : List Int) ++ List.replicate (n - ([0] : List Int).length) 0 = [] ++ List.replicate (n - ([] : List Int).length) 0 := by
        obtain ⟨m, hm⟩ : ∃ m, n = m + 1 := ⟨n - 1, by omega⟩
        subst hm
        simp [List.replicate_succ]
      rw [e]
      exact A1.out.own.aside gu 0 (.bool true) (fun e => A1.out.ne e.symm) hg
    · rw [H00.out]
      have := us_set (n := n) (X := []) (c := 0) (by omega)
      have e : (us n [0]) = (us n []).set 0 true := this.symm
      rw [e, List.map_set]
      exact (A1.out.used.stored 0 (.bool true)).1
  have f0 := A1.out.used.frozenAt 0
  have k0 := A1.out.bool 0 (by omega)
  have n0 : (0 : Int) < (n : Int) := by omega
  have bne : w.heap.size ≠ gu := by
    have := (row_blk A1.out.used).1
    have := HXs.out
    omega
  clear A1
  go_upto_region 4 with fail
  generalize w3.setCell ⟨gu, 0, none⟩ (.bool true) = w4 at *
  clear e0 e1 e2 e3 e4 e5 f0 k0
  obtain ⟨e0, e1, e2, e3, e4, e5⟩ := HB6.out w4 A2.out.own.2.2.2
  go_wp2
  go_loopw [5] (fun i wr => ∃ t : Nat, 1 ≤ t ∧ t ≤ n ∧ i = .int .i64 t ∧ Hid (Am X.heap.size gx gu n (asR 3 cl t) X wr)) (fun i _ => n - (intOf i).toNat)
  case atStart => exact ⟨1, by omega, hn, rfl, A2⟩
  case round =>
    clear A2 e0 e1 e2 e3 e4 e5
    obtain ⟨t, h1t, ht, rfl, HP⟩ := hrel
    obtain ⟨e0, e1, e2, e3, e4, e5⟩ := HB6.out wr HP.out.own.2.2.2
    by_cases hlt : t < n
    · have q1 : (t : Int) < (n : Int) := by omega
      have q0 : (0 : Int) ≤ (t : Int) := by omega
      obtain ⟨s, hs⟩ : ∃ s, s = t - 1 := ⟨_, rfl⟩
      have hs1 : (t : Int) - 1 = (s : Int) := by omega
      have s0 : (0 : Int) ≤ (s : Int) := by omega
      have hw1 : IntKind.i64.wrap ((t : Int) - 1) = (s : Int) := by rw [IntKind.wrap_i64]; omega
      have hw2 : IntKind.i64.wrap (s : Int) = (s : Int) := by rw [IntKind.wrap_i64]; omega
      have s1 : (s : Int) < (n : Int) := by omega
      obtain ⟨p, hp, hpn⟩ := HPv.out t h1t ht
      obtain ⟨b, o, aj, cj, rfl, d1, d2⟩ := HR.out wr HP.out.own.2.2.2 p hpn
      obtain ⟨c, hc, hcn⟩ := HCh.out t p h1t hlt hp
      have p1 : (p : Int) < (n : Int) := by omega
      have p0 : (0 : Int) ≤ (p : Int) := by omega
      have CH : Hid (∀ W, Below wr.heap.size wr W → Calls Try.prog 57 #[.slice aj n cj, .slice (some ⟨gu, 0, none⟩) n n] W fun e w' => e = .returned (.int .i64 c) ∧ W = w') := fun W hW => by
        have := cheap_any n (cl[p]?.getD []) (asR 3 cl t) (HRl.out p hpn) aj cj gu n W (d2.keep hW) (fun j hj => (HP.out.keep hW).bool j hj) (by omega)
        rw [hc] at this; exact this
      have HN : Hid (∀ W, Am X.heap.size gx gu n (asR 3 cl t) X W → Am X.heap.size gx gu n (asR 3 cl (t + 1)) X ((W.setCell ⟨gx, t, none⟩ (.int .i64 c)).setCell ⟨gu, c, none⟩ (.bool true))) := fun W h => by
        rw [HS.out t p h1t hlt hp, hc]; exact h.next t c (HLn.out t ht) hlt hcn
      have hgg := HP.out.ne
      have f1 := HP.out.own.frozen t
      have k1 := HP.out.own.cell t (by omega)
      have k3 := HP.out.own.cell s (by omega)
      have kp : od.nth (asR 3 cl t ++ List.replicate (n - (asR 3 cl t).length) 0) s = (p : Int) := by
        rw [← hp, ← hs, od_nth]
        unfold nth
        rw [List.getElem?_append_left (by rw [HLn.out t ht]; omega)]
      rw [kp] at k3
      have f2 := HP.out.used.frozenAt c
      have k2 := HP.out.bool c hcn
      have c1 : (c : Int) < (n : Int) := by omega
      have c0 : (0 : Int) ≤ (c : Int) := by omega
      clear d2 hc hs kp hp
      generalize od.nth (asR 3 cl t ++ List.replicate (n - (asR 3 cl t).length) 0) t = z at *
      go_wp2
      go_region_with (go_at_call 57; refine (CH.out _ (od.bl_drew _)).mono ?_; rintro e w4 ⟨rfl, rfl⟩)
      all_goals
        go_wp2
        go_roundw
        case rel => exact ⟨t + 1, by omega, by omega, by go_num, HN.out _ (HP.out.keep (od.bl_drew _))⟩
        case measure => simp [intOf]; omega
    · obtain rfl : n = t := by omega
      have HF : Hid (od.Own w.heap.size gx n n (asR 3 cl n) w wr) := by
        have := HP.out.own
        rw [HLn.out n (Nat.le_refl _), Nat.sub_self] at this
        exact HG.out gx wr (by simpa using this)
      clear HP
      go_wp2
      first
        | exact ⟨gx, rfl, HF.out⟩
        | (go_ret; exact ⟨gx, rfl, HF.out⟩)
        | (go_at_K; go_wp2; exact ⟨gx, rfl, HF.out⟩)
end Go.Proofs.Ytaobaiifbmhegaa

/-
  greedy: First of every problem.
-/
namespace Go.Proofs.Ytaobaiifbmhegaa
open Go.RowKit
set_option linter.unusedVariables false
theorem rows_of {K N C : Int} {wl vl : List Int} {cl : List (List Int)} (hK : K ≠ 1) (hc : chk K N C wl vl cl = 0) : 1 ≤ cl.length ∧ cl.length ≤ 24 ∧ N = (cl.length : Int) ∧ rowsP cl ∧ (K = 2 ∨ K = 3) ∧ C = 0 ∧ wl.length = 0 ∧ vl.length = 0 := by
  obtain ⟨z0, z⟩ := chk_zero hc
  rcases z with ⟨z, _⟩ | ⟨z1, z2, z3, z4, z5, z6, z7, _⟩
  · exact absurd z hK
  · exact ⟨by omega, by omega, z3.symm, z7, z1, z4, z5, z6⟩
set_option maxRecDepth 100000 in
set_option maxHeartbeats 4000000 in
theorem first_asg (N C : Int) (wl vl : List Int) (cl : List (List Int)) (wa va ca : Option Addr) (wc vc cc : Nat) (w : World) (h : Prob w wl vl cl wa va ca) (hc : chk 2 N C wl vl cl = 0) :
    Calls Try.prog 10 #[.agg #[.int .i64 2, .int .i64 N, .int .i64 C, .slice wa wl.length wc, .slice va vl.length vc, .slice ca cl.length cc]] w (FsP 2 N C wl vl cl w) := by
  obtain ⟨z1, z24, zN, zp, _, zC, zw, zv⟩ := rows_of (by decide) hc
  have bA : Below w.heap.size w (w.alloc (ob 2 N C (.slice wa wl.length wc) (.slice va vl.length vc) (.slice ca cl.length cc))) := bl_al (Below.refl _ _) _
  have HC := Lib.hid (check_prob 2 N C (wc := wc) (vc := vc) (cc := cc) (h.keep bA))
  have q0 := Lib.hid (heap_alloc_new w (ob 2 N C (.slice wa wl.length wc) (.slice va vl.length vc) (.slice ca cl.length cc)))
  rw [hc] at HC
  have HP : Hid (∀ W, Below w.heap.size w W → Calls Try.prog 33 #[.agg #[.int .i64 2, .int .i64 N, .int .i64 C, .slice wa wl.length wc, .slice va vl.length vc, .slice ca cl.length cc]] W fun e w' => ∃ g, e = .returned (.slice (some ⟨g, 0, none⟩) cl.length cl.length) ∧ Hid (od.Own w.heap.size g cl.length cl.length (asR 2 cl cl.length) w w')) := fun W hW => by
    have p := assign_any C (.slice wa wl.length wc) (.slice va vl.length vc) cl cl.length rfl zp z1 (by omega) ca cc W (h.2.2.1.keep hW)
    rw [zN]
    exact p.mono fun e w' ⟨g, e1, t3⟩ => ⟨g, e1, t3.down hW hW.size⟩
  have HG : Hid (∀ g W', od.Own w.heap.size g cl.length cl.length (asR 2 cl cl.length) w W' → FsP 2 N C wl vl cl w (.returned (.tuple #[.slice (some ⟨g, 0, none⟩) cl.length cl.length, .int .i64 0])) W') := fun g W' t3 => by
    have l : (asR 2 cl cl.length).length = cl.length := t3.1
    exact .inr ⟨hc, g, asR 2 cl cl.length, by rw [l], .inr ⟨by decide, rfl⟩, by rw [l]; exact t3⟩
  have BA := Lib.hid bA
  unfold ob at HC BA q0
  clear h bA hc z1 z24 zN zp zC zw zv
  generalize FsP 2 N C wl vl cl w = G at *
  go_enter Try.func10, Try.ntmps10
  go_wp2_with fail
  refine HC.out.mono ?_; rintro e w1 ⟨rfl, hb⟩
  have B1 := Lib.hid (bl_tr BA.out hb)
  obtain ⟨c0, c1, c2, c3, c4, c5⟩ := box6 ((hb.block _ (lt_hp q0.out)).trans q0.out)
  clear hb HC q0
  go_wp2_with fail
  refine (HP.out w1 B1.out).mono ?_; rintro e w2 ⟨g, rfl, hT⟩
  have HF := Lib.hid (HG.out g w2 hT.out)
  clear HP HG hT c0 c1 c2 c3 c4 c5
  go_wp2
  exact HF.out
set_option maxRecDepth 100000 in
set_option maxHeartbeats 4000000 in
theorem first_tour (N C : Int) (wl vl : List Int) (cl : List (List Int)) (wa va ca : Option Addr) (wc vc cc : Nat) (w : World) (h : Prob w wl vl cl wa va ca) (hc : chk 3 N C wl vl cl = 0) :
    Calls Try.prog 10 #[.agg #[.int .i64 3, .int .i64 N, .int .i64 C, .slice wa wl.length wc, .slice va vl.length vc, .slice ca cl.length cc]] w (FsP 3 N C wl vl cl w) := by
  obtain ⟨z1, z24, zN, zp, _, zC, zw, zv⟩ := rows_of (by decide) hc
  have bA : Below w.heap.size w (w.alloc (ob 3 N C (.slice wa wl.length wc) (.slice va vl.length vc) (.slice ca cl.length cc))) := bl_al (Below.refl _ _) _
  have HC := Lib.hid (check_prob 3 N C (wc := wc) (vc := vc) (cc := cc) (h.keep bA))
  have q0 := Lib.hid (heap_alloc_new w (ob 3 N C (.slice wa wl.length wc) (.slice va vl.length vc) (.slice ca cl.length cc)))
  rw [hc] at HC
  have HP : Hid (∀ W, Below w.heap.size w W → Calls Try.prog 34 #[.agg #[.int .i64 3, .int .i64 N, .int .i64 C, .slice wa wl.length wc, .slice va vl.length vc, .slice ca cl.length cc]] W fun e w' => ∃ g, e = .returned (.slice (some ⟨g, 0, none⟩) cl.length cl.length) ∧ Hid (od.Own w.heap.size g cl.length cl.length (asR 3 cl cl.length) w w')) := fun W hW => by
    have p := walk_any C (.slice wa wl.length wc) (.slice va vl.length vc) cl cl.length rfl zp z1 (by omega) ca cc W (h.2.2.1.keep hW)
    rw [zN]
    exact p.mono fun e w' ⟨g, e1, t3⟩ => ⟨g, e1, t3.down hW hW.size⟩
  have HG : Hid (∀ g W', od.Own w.heap.size g cl.length cl.length (asR 3 cl cl.length) w W' → FsP 3 N C wl vl cl w (.returned (.tuple #[.slice (some ⟨g, 0, none⟩) cl.length cl.length, .int .i64 0])) W') := fun g W' t3 => by
    have l : (asR 3 cl cl.length).length = cl.length := t3.1
    exact .inr ⟨hc, g, asR 3 cl cl.length, by rw [l], .inr ⟨by decide, rfl⟩, by rw [l]; exact t3⟩
  have BA := Lib.hid bA
  unfold ob at HC BA q0
  clear h bA hc z1 z24 zN zp zC zw zv
  generalize FsP 3 N C wl vl cl w = G at *
  go_enter Try.func10, Try.ntmps10
  go_wp2_with fail
  refine HC.out.mono ?_; rintro e w1 ⟨rfl, hb⟩
  have B1 := Lib.hid (bl_tr BA.out hb)
  obtain ⟨c0, c1, c2, c3, c4, c5⟩ := box6 ((hb.block _ (lt_hp q0.out)).trans q0.out)
  clear hb HC q0
  go_wp2_with fail
  refine (HP.out w1 B1.out).mono ?_; rintro e w2 ⟨g, rfl, hT⟩
  have HF := Lib.hid (HG.out g w2 hT.out)
  clear HP HG hT c0 c1 c2 c3 c4 c5
  go_wp2
  exact HF.out
theorem first_any (K N C : Int) (wl vl : List Int) (cl : List (List Int)) (wa va ca : Option Addr) (wc vc cc : Nat) (w : World) (h : Prob w wl vl cl wa va ca) :
    Calls Try.prog 10 #[.agg #[.int .i64 K, .int .i64 N, .int .i64 C, .slice wa wl.length wc, .slice va vl.length vc, .slice ca cl.length cc]] w (FsP K N C wl vl cl w) := by
  by_cases hc : chk K N C wl vl cl = 0
  · by_cases h1 : K = 1
    · subst h1; exact first_items N C wl vl cl wa va ca wc vc cc w h hc
    · rcases (rows_of h1 hc).2.2.2.2.1 with rfl | rfl
      · exact first_asg N C wl vl cl wa va ca wc vc cc w h hc
      · exact first_tour N C wl vl cl wa va ca wc vc cc w h hc
  · exact first_no K N C wl vl cl wa va ca wc vc cc w h hc
/-- a first answer is one -/
theorem first_ok {K N C : Int} {wl vl : List Int} {cl : List (List Int)} (hc : chk K N C wl vl cl = 0) {x : List Int} (hx : FirstR K C wl vl cl x) : (costR K N C wl vl cl x).2 = 0 := by
  rcases hx with ⟨rfl, T, t1, t2, rfl⟩ | ⟨h1, rfl⟩
  · exact (pack_okx hc (ord_of t1 t2)).2
  · exact (as_okx (rows_of h1 hc).2.2.2.2.1 hc).2
end Go.Proofs.Ytaobaiifbmhegaa

/-
  greedy: the items that are packed.
-/
import Derived.Test.YtaobaiifbmhegaaFa
import Derived.Test.YtaobaiifbmhegaaOdRatA
import Derived.Test.YtaobaiifbmhegaaOdRRat2
import Derived.Test.YtaobaiifbmhegaaArFar2
import Derived.Laws.IdiomCopy
import Derived.Lib.SliceRun
namespace Go.Proofs.Ytaobaiifbmhegaa
open Go.RowKit
set_option linter.unusedVariables false
theorem cross_all : od.CrossP := fun a b c d ha hb hc hd X => by
  have h := ar.cross_any a b c d ha.1 ha.2 hb.1 hb.2 hc.1 hc.2 hd.1 hd.2 X
  rw [od.cmpv_two] at h
  exact h
theorem ints_od {W : World} {a : Option Addr} {l : List Int} (h : Ints W a l) : od.Ints W a l := fun j hj => by
  obtain ⟨b, o, e1, e2, e3⟩ := h j hj
  exact ⟨b, o, e1, e2, by rw [od_nth]; unfold nth; exact e3⟩
theorem ord_of {lt : Nat → Nat → Bool} {n : Nat} {T : List Int} (h1 : od.IsRk lt n T) (h2 : od.OnRk lt n T) : OrdF T n := by
  refine ⟨h1.1, fun j hj => ?_, fun i j hij hj e => ?_⟩
  · obtain ⟨a, a1, _, a3⟩ := h2 j hj
    rw [← od_nth, a3]; omega
  · obtain ⟨a, a1, a2, a3⟩ := h2 i (by omega)
    obtain ⟨b, b1, b2, b3⟩ := h2 j hj
    rw [← od_nth, ← od_nth, a3, b3] at e
    have : a = b := by omega
    subst this
    omega
theorem own_cells {B g n cap : Nat} {l : List Int} {w0 : World} : ∀ (m o : Nat) (W : World), od.Own B g n cap l w0 W → o + m ≤ n → ∃ l', od.Own B g n cap l' w0 (W.setCells g o (List.replicate m (.int .i64 0))) ∧ ∀ j, od.nth l' j = if o ≤ j ∧ j < o + m then 0 else od.nth l j := by
  intro m
  induction m generalizing l with
  | zero => exact fun o W h _ => ⟨l, h, fun j => by rw [if_neg (by omega)]⟩
  | succ m ih =>
    intro o W h ho
    obtain ⟨l', h1, h2⟩ := ih (l := l.set o 0) (o + 1) _ (h.set o 0) (by omega)
    refine ⟨l', h1, fun j => ?_⟩
    rw [h2 j, od.nth_set _ _ _ _ (by rw [h.1]; omega)]
    by_cases a : o = j
    · rw [if_neg (by omega), if_pos a, if_pos (by omega)]
    · rw [if_neg a]
      by_cases b : o + 1 ≤ j ∧ j < o + 1 + m
      · rw [if_pos b, if_pos (by omega)]
      · rw [if_neg b, if_neg (by omega)]
theorem own_clear {B g n cap : Nat} {l : List Int} {w0 W : World} (h : od.Own B g n cap l w0 W) : od.Own B g n cap (List.replicate n 0) w0 (W.setCells g 0 (List.replicate n (.int .i64 0))) := by
  obtain ⟨l', h1, h2⟩ := own_cells n 0 W h (by omega)
  have : l' = List.replicate n 0 := od.nth_ext _ _ (by rw [h1.1]; simp) fun j hj => by
    rw [h2 j, if_pos (by rw [h1.1] at hj; omega), od_nth, nth_rep]
  rw [← this]; exact h1
theorem i64s_of {l : List Int} {n : Nat} (hn : l.length = n) (h : ∀ j, j < n → 0 ≤ nth l j ∧ nth l j ≤ 2147483647) : od.I64s l := fun j => by
  unfold od.I64
  rw [od_nth]
  by_cases hj : j < n
  · have := h j hj; omega
  · unfold nth
    rw [List.getElem?_eq_none (by omega)]
    exact ⟨by decide, by decide⟩
theorem rat_ok {wl vl : List Int} {n : Nat} (hw : wl.length = n) (hF : ItF wl vl) : od.ratOk vl wl := by
  have h := hF.2.2
  refine ⟨hF.2.1, by have := hF.1; have := hF.2.1; omega, fun j hj => ?_, fun j hj => ?_⟩
  · rw [od_nth]; exact (h j (by have := hF.2.1; omega)).2.1
  · rw [od_nth]; exact (h j hj).1.1
/-- what pack leaves -/
def PkP (C : Int) (wl vl : List Int) (n : Nat) (w : World) (e : Ending) (w' : World) : Prop :=
  ∃ g T, e = .returned (.slice (some ⟨g, 0, none⟩) n n) ∧ od.IsRk (od.ltR vl wl) n T ∧ od.OnRk (od.ltR vl wl) n T ∧ od.Own w.heap.size g n n (packR C wl vl T) w w'
set_option maxRecDepth 100000 in
set_option maxHeartbeats 8000000 in
theorem pack_any (K C : Int) (wl vl : List Int) (v5 : Value) (n : Nat) (hw : wl.length = n) (hF : ItF wl vl) (hn : 1 ≤ n) (hC : 0 ≤ C ∧ C ≤ 2147483647) (wa va : Option Addr) (wc vc : Nat) (w : World) (h1 : Ints w wa wl) (h2 : Ints w va vl) :
    Calls Try.prog 32 #[.agg #[.int .i64 K, .int .i64 n, .int .i64 C, .slice wa n wc, .slice va n vc, v5]] w (PkP C wl vl n w) := by
  obtain ⟨i0, hi, hz0, hz1, hz2⟩ := info_parts od.info3
  have hv : vl.length = n := by have := hF.2.1; omega
  have h64 : n ≤ 64 := by have := hF.1; omega
  have bA : Below w.heap.size w (w.alloc (ob K n C (.slice wa n wc) (.slice va n vc) v5)) := bl_al (Below.refl _ _) _
  have BA := Lib.hid bA
  have q0 := Lib.hid (heap_alloc_new w (ob K n C (.slice wa n wc) (.slice va n vc) v5))
  have HB6 := Lib.hid (fun (W : World) (h : Below (w.alloc (ob K n C (.slice wa n wc) (.slice va n vc) v5)).heap.size (w.alloc (ob K n C (.slice wa n wc) (.slice va n vc) v5)) W) => box6 ((h.block _ (lt_hp q0.out)).trans q0.out))
  have HW : Hid (∀ W, Below (w.alloc (ob K n C (.slice wa n wc) (.slice va n vc) v5)).heap.size (w.alloc (ob K n C (.slice wa n wc) (.slice va n vc) v5)) W → ∀ j, j < n → ∃ b o, wa = some ⟨b, o, none⟩ ∧ b < (w.alloc (ob K n C (.slice wa n wc) (.slice va n vc) v5)).heap.size ∧ W.cell? ⟨b, o + j, none⟩ = some (.int .i64 (nth wl j))) := fun W hW j hj => by
    obtain ⟨b, o, e1, e2, e3⟩ := (h1.keep bA) j (by omega)
    exact ⟨b, o, e1, e2, by unfold nth; exact (hW.cell (p := ⟨b, o + j, none⟩) e2).trans e3⟩
  have HV : Hid (∀ W, Below (w.alloc (ob K n C (.slice wa n wc) (.slice va n vc) v5)).heap.size (w.alloc (ob K n C (.slice wa n wc) (.slice va n vc) v5)) W → ∀ j, j < n → ∃ b o, va = some ⟨b, o, none⟩ ∧ b < (w.alloc (ob K n C (.slice wa n wc) (.slice va n vc) v5)).heap.size ∧ W.cell? ⟨b, o + j, none⟩ = some (.int .i64 (nth vl j))) := fun W hW j hj => by
    obtain ⟨b, o, e1, e2, e3⟩ := (h2.keep bA) j (by omega)
    exact ⟨b, o, e1, e2, by unfold nth; exact (hW.cell (p := ⟨b, o + j, none⟩) e2).trans e3⟩
  have HR : Hid (∀ W, Below (w.alloc (ob K n C (.slice wa n wc) (.slice va n vc) v5)).heap.size (w.alloc (ob K n C (.slice wa n wc) (.slice va n vc) v5)) W → Calls Try.prog 55 #[.slice va n vc, .slice wa n wc] W fun e W' => ∃ g cap T, e = .returned (.tuple #[.slice (some ⟨g, 0, none⟩) n cap, .int .i64 0]) ∧ Hid (od.IsRk (od.ltR vl wl) n T) ∧ Hid (od.OnRk (od.ltR vl wl) n T) ∧ Hid (∀ j, j < n → W'.cell? ⟨g, j, none⟩ = some (.int .i64 (nth T j))) ∧ Hid (W.heap.size ≤ g) ∧ Hid (Below W.heap.size W W')) := fun W hW => by
    have r := od.ratio_any cross_all vl wl (by omega) (by omega) (i64s_of hv (fun j hj => (hF.2.2 j (by omega)).2)) (i64s_of hw (fun j hj => (hF.2.2 j (by omega)).1)) wa va wc vc W (ints_od ((h1.keep bA).keep hW)) (ints_od ((h2.keep bA).keep hW))
    rw [hv, hw] at r
    refine r.mono fun e W' h => ?_
    rcases h with ⟨_, g, cap, T, e1, t1, t2, t3, t4, t5⟩ | ⟨hno, _⟩
    · rw [hv] at e1 t1 t2 t5
      refine ⟨g, cap, T, e1, t1, t2, fun j hj => ?_, ?_, t4⟩
      · obtain ⟨b, o, eb, _, c⟩ := t3 j (by rw [t1.1]; exact hj)
        injection eb with eb; injection eb with eb1 eb2; subst eb1; subst eb2
        rw [Nat.zero_add, od_nth] at c; exact c
      · rcases t5.2 with ⟨h', _⟩ | ⟨g', cap', cur, h', hg, _⟩
        · cases h'
        · injection h' with h' _ _
          injection h' with h'
          injection h' with h'
          subst h'
          exact hg
    · exact absurd (rat_ok hw hF) hno
  have HBA : Hid (∀ W, Below (w.alloc (ob K n C (.slice wa n wc) (.slice va n vc) v5)).heap.size (w.alloc (ob K n C (.slice wa n wc) (.slice va n vc) v5)) W → Calls Try.prog 56 #[.agg #[.int .i64 K, .int .i64 n, .int .i64 C, .slice wa n wc, .slice va n vc, v5]] W fun e w' => e = .returned (.int .i64 (baR C wl vl n)) ∧ Below W.heap.size W w') := fun W hW => alone_any K n C wl vl v5 n hw hv (by omega) wa va wc vc W ((h1.keep bA).keep hW) ((h2.keep bA).keep hW)
  have HPg := Lib.hid (fun (T : List Int) (t : Nat) (hT : OrdF T n) (ht : t ≤ n) => pk_good hC.1 hF (by rw [hw]; exact hT) t (by omega))
  have HPz : Hid (∀ T, pkR C wl vl T 0 = (List.replicate n 0, C, 0)) := fun T => by rw [pk_zero, hw]
  have HPy := Lib.hid (fun (T : List Int) (t : Nat) h => pk_yes (C := C) (wl := wl) (vl := vl) (l := T) (t := t) h)
  have HPn := Lib.hid (fun (T : List Int) (t : Nat) h => pk_no (C := C) (wl := wl) (vl := vl) (l := T) (t := t) h)
  have HF := Lib.hid (fun j (hj : j < n) => hF.2.2 j (by omega))
  have HBi := Lib.hid (ba_in C wl vl n)
  have HOne : Hid (∀ (T : List Int) (i : Nat), T.length = n → baR C wl vl n = (i : Int) → (pkR C wl vl T n).2.2 < nth vl i → packR C wl vl T = (List.replicate n 0).set i 1) := fun T i hT h h1 => by
    have := pack_one (C := C) (wl := wl) (vl := vl) (l := T) (by rw [hw, h]; omega) (by rw [hw, h, hT]; exact h1)
    rw [hw, h] at this; exact this
  have HAll : Hid (∀ (T : List Int), T.length = n → ¬ (0 ≤ baR C wl vl n ∧ (pkR C wl vl T n).2.2 < nth vl (baR C wl vl n).toNat) → packR C wl vl T = (pkR C wl vl T n).1) := fun T hT h => by
    have := pack_all (C := C) (wl := wl) (vl := vl) (l := T) (by rw [hw, hT]; exact h)
    rw [hT] at this; exact this
  have HG : Hid (∀ (g : Nat) (T : List Int) (W' : World), od.IsRk (od.ltR vl wl) n T → od.OnRk (od.ltR vl wl) n T → od.Own (w.alloc (ob K n C (.slice wa n wc) (.slice va n vc) v5)).heap.size g n n (packR C wl vl T) (w.alloc (ob K n C (.slice wa n wc) (.slice va n vc) v5)) W' → PkP C wl vl n w (.returned (.slice (some ⟨g, 0, none⟩) n n)) W') := fun g T W' t1 t2 h => ⟨g, T, rfl, t1, t2, h.down bA bA.size⟩
  have hrefl := Lib.hid (Below.refl (w.alloc (ob K n C (.slice wa n wc) (.slice va n vc) v5)).heap.size (w.alloc (ob K n C (.slice wa n wc) (.slice va n vc) v5)))
  have HXs := Lib.hid (lt_hp q0.out)
  unfold ob at *
  clear h1 h2 hv bA hF hw q0
  generalize PkP C wl vl n w = G at *
  go_enter Try.func32, Try.ntmps32
  go_upto_region 1 with fail
  generalize w.alloc (.cells #[.int .i64 K, .int .i64 n, .int .i64 C, .slice wa n wc, .slice va n vc, v5] 25) = X at *
  obtain ⟨e0, e1, e2, e3, e4, e5⟩ := HB6.out X hrefl.out
  go_wp2_with (at_make; refine wpList_make_full _ rfl _ _ 22 rfl X.heap.size 3 i0 (.int .i64 0) 1 Try.underlying22 hi hz0 hz1 .i64 .i64 _ _ n rfl rfl rfl rfl (by rw [hz2]; omega) (by unfold maxLen; omega) (Nat.le_refl _) ?_)
  intro w2 hown hgrow
  have A0 : Hid (od.Own X.heap.size X.heap.size n n (List.replicate n 0) X w2) := ⟨by simp, Nat.le_refl _, by rw [List.map_replicate, ← toList_madeCells_one]; exact hown, (Below.refl _ _).grown hgrow (Nat.le_refl _) (fun j hj => by cases hj)⟩
  clear hown hgrow e0 e1 e2 e3 e4 e5
  obtain ⟨gx, hgx⟩ : ∃ gx, gx = X.heap.size := ⟨_, rfl⟩
  rw [← hgx] at A0
  have HGX := Lib.hid hgx
  obtain ⟨e0, e1, e2, e3, e4, e5⟩ := HB6.out w2 (by rw [← hgx]; exact A0.out.2.2.2)
  have R2 := Lib.hid (HR.out w2 (by rw [← hgx]; exact A0.out.2.2.2))
  rw [← hgx]
  clear hgx HR hrefl
  go_wp2_with fail
  refine R2.out.mono ?_; rintro e w3 ⟨gT, cT, T, rfl, T1, T2, TC, TG, hb3⟩
  have A1 : Hid (od.Own gx gx n n (pkR C wl vl T 0).1 X w3) := by
    show od.Own _ _ _ _ _ _ _
    rw [HPz.out T]; exact A0.out.keep hb3.out
  have hne : gx ≠ gT := by
    have := TG.out
    have := own_lt A0.out
    omega
  have hT := Lib.hid (ord_of T1.out T2.out)
  clear A0 hb3 R2 TG e0 e1 e2 e3 e4 e5
  obtain ⟨e0, e1, e2, e3, e4, e5⟩ := HB6.out w3 (by rw [← HGX.out]; exact A1.out.2.2.2)
  have HZ1 : Hid ((pkR C wl vl T 0).2.1 = C ∧ (pkR C wl vl T 0).2.2 = 0) := by show _ ∧ _; rw [HPz.out T]; exact ⟨rfl, rfl⟩
  go_wp2
  go_loopw [6, 7, 26] (fun v6 v7 i wr => ∃ t : Nat, t ≤ n ∧ i = .int .i64 t ∧ v6 = .int .i64 (pkR C wl vl T t).2.1 ∧ v7 = .int .i64 (pkR C wl vl T t).2.2 ∧ Hid (od.Own gx gx n n (pkR C wl vl T t).1 X wr) ∧ Hid (∀ j, j < n → wr.cell? ⟨gT, j, none⟩ = some (.int .i64 (nth T j)))) (fun _ _ i _ => n - (intOf i).toNat)
  case atStart => exact ⟨0, by omega, rfl, by rw [HZ1.out.1], by rw [HZ1.out.2], A1, TC⟩
  case round =>
    clear A1 TC e0 e1 e2 e3 e4 e5
    obtain ⟨t, ht, rfl, rfl, rfl, HP, TC⟩ := hrel
    have hbw : Below X.heap.size X wr := by rw [← HGX.out]; exact HP.out.2.2.2
    obtain ⟨e0, e1, e2, e3, e4, e5⟩ := HB6.out wr hbw
    by_cases hlt : t < n
    · have q1 : (t : Int) < (n : Int) := by omega
      have q0 : (0 : Int) ≤ (t : Int) := by omega
      have tr := hT.out.2.1 t hlt
      obtain ⟨k, hk⟩ : ∃ k : Nat, nth T t = (k : Int) := ⟨(nth T t).toNat, by omega⟩
      have kn : k < n := by omega
      have k1 : (k : Int) < (n : Int) := by omega
      have k0 : (0 : Int) ≤ (k : Int) := by omega
      have kt : (nth T t).toNat = k := by omega
      have d0 := TC.out t hlt
      rw [hk] at d0
      obtain ⟨bw, ow, rfl, bw1, d1⟩ := HW.out wr hbw k kn
      obtain ⟨bv, ov, rfl, bv1, d2⟩ := HV.out wr hbw k kn
      have nbw : bw ≠ gx := by have := HGX.out; omega
      have nbv : bv ≠ gx := by have := HGX.out; omega
      have nbx : w.heap.size ≠ gx := by have := HGX.out; have := HXs.out; omega
      have PG := Lib.hid (HPg.out T t hT.out ht)
      have FK := Lib.hid (HF.out k kn)
      have Py := Lib.hid (HPy.out T t)
      have Pn := Lib.hid (HPn.out T t)
      rw [kt] at Py Pn
      have fz := HP.out.frozen k
      have dx := HP.out.cell k kn
      have gr := PG.out.roomR
      have gw := PG.out.worth
      have fk := FK.out
      clear hk kt tr PG FK hbw
      by_cases c : nth wl k ≤ (pkR C wl vl T t).2.1
      · have E := Lib.hid (Py.out c)
        have S1 : Hid (od.Own gx gx n n (pkR C wl vl T (t + 1)).1 X (wr.setCell ⟨gx, k, none⟩ (.int .i64 1))) := by show od.Own _ _ _ _ _ _ _; rw [E.out]; exact HP.out.set k 1
        have S2 : Hid (∀ j, j < n → (wr.setCell ⟨gx, k, none⟩ (.int .i64 1)).cell? ⟨gT, j, none⟩ = some (.int .i64 (nth T j))) := fun j hj => by
          rw [World.cell?_setCell_other _ _ _ _ (fun e => hne (congrArg Addr.block e))]; exact TC.out j hj
        have S3 : Hid ((pkR C wl vl T (t + 1)).2.1 = (pkR C wl vl T t).2.1 - nth wl k ∧ (pkR C wl vl T (t + 1)).2.2 = (pkR C wl vl T t).2.2 + nth vl k) := by show _ ∧ _; rw [E.out]; exact ⟨rfl, rfl⟩
        clear HP TC E Py Pn
        generalize (pkR C wl vl T t).2.1 = room at *
        generalize (pkR C wl vl T t).2.2 = worth at *
        generalize od.nth (pkR C wl vl T t).1 k = xk at *
        generalize nth wl k = wk at *
        generalize nth vl k = vk at *
        go_wp2
        go_roundw
        case rel => exact ⟨t + 1, by omega, by go_num, by rw [S3.out.1], by rw [S3.out.2], S1, S2⟩
        case measure => simp [intOf]; omega
      · have E := Lib.hid (Pn.out (by omega))
        clear Py Pn
        generalize hu : pkR C wl vl T t = u at *
        have HU := Lib.hid hu
        clear hu
        obtain ⟨u1, room, worth⟩ := u
        simp only at *
        generalize od.nth u1 k = xk at *
        generalize nth wl k = wk at *
        generalize nth vl k = vk at *
        go_wp2
        go_roundw
        case rel => exact ⟨t + 1, by omega, by go_num, by rw [E.out], by rw [E.out], by rw [E.out]; exact HP, TC⟩
        case measure => simp [intOf]; omega
    · obtain rfl : n = t := by omega
      have BQ := Lib.hid (HBA.out wr hbw)
      have hl := T1.out.1
      have On := Lib.hid (fun i => HOne.out T i hl)
      have Al := Lib.hid (HAll.out T hl)
      have HGq := Lib.hid (fun (W' : World) (h : od.Own X.heap.size gx n n (packR C wl vl T) X W') => HG.out gx T W' T1.out T2.out h)
      have gw := (HPg.out T n hT.out (Nat.le_refl _)).worth
      clear HBA HPg HPz HPy HPn HOne HAll HG TC T1 T2 hT hbw hlt
      go_wp2_with fail
      refine BQ.out.mono ?_; rintro e w5 ⟨rfl, hb5⟩
      have O5 := Lib.hid (HP.out.keep hb5)
      clear BQ HP hb5 e0 e1 e2 e3 e4 e5
      obtain ⟨e0, e1, e2, e3, e4, e5⟩ := HB6.out w5 (by rw [← HGX.out]; exact O5.out.2.2.2)
      generalize hU : pkR C wl vl T n = u at *
      obtain ⟨u1, room, worth⟩ := u
      simp only at *
      by_cases z0 : baR C wl vl n < 0
      · have HFi : Hid (G (.returned (.slice (some ⟨gx, 0, none⟩) n n)) w5) := HGq.out w5 (by rw [Al.out (fun h => by omega), ← HGX.out]; exact O5.out)
        clear O5 Al On HGq HBi
        generalize baR C wl vl n = z at *
        go_wp2
        first | exact HFi.out | (go_ret; exact HFi.out)
      · obtain ⟨i, hm⟩ : ∃ i : Nat, baR C wl vl n = (i : Int) := ⟨(baR C wl vl n).toNat, by omega⟩
        have hin : i < n := by have := HBi.out.2.1; omega
        have i0' : ¬ (i : Int) < 0 := by omega
        have i1 : (0 : Int) ≤ (i : Int) := by omega
        have i2 : (i : Int) < (n : Int) := by omega
        obtain ⟨bv, ov, rfl, bv1, d2⟩ := HV.out w5 (by rw [← HGX.out]; exact O5.out.2.2.2) i hin
        by_cases c : worth < nth vl i
        · have hcl : ∀ ty, (Builtin.clear_ #[22] ty #[.slice (some ⟨gx, 0, none⟩) n n]).run Try.prog w5 = .ok (.tuple #[]) (w5.setCells gx 0 (List.replicate n (.int .i64 0))) :=
            fun ty => Lib.run_clear_slice w5 22 3 ty (.int .i64 0) Try.underlying22 (fun w => rfl) rfl rfl gx 0 n n (by omega) (fun j hj => by rw [Nat.zero_add, O5.out.cell j hj]; rfl) (fun j hj => O5.out.frozen _)
          have O6 := Lib.hid (own_clear O5.out)
          have fz := O6.out.frozen i
          have dx := O6.out.cell i hin
          have HFi : Hid (G (.returned (.slice (some ⟨gx, 0, none⟩) n n)) ((w5.setCells gx 0 (List.replicate n (.int .i64 0))).setCell ⟨gx, i, none⟩ (.int .i64 1))) := HGq.out _ (by rw [On.out i hm c, ← HGX.out]; exact O6.out.set i 1)
          rw [hm]
          generalize w5.setCells gx 0 (List.replicate n (.int .i64 0)) = w6 at *
          clear O5 Al On HGq HBi z0 hm O6
          generalize nth vl i = y at *
          go_wp2
          first | exact HFi.out | (go_ret; exact HFi.out)
        · have HFi : Hid (G (.returned (.slice (some ⟨gx, 0, none⟩) n n)) w5) := HGq.out w5 (by rw [Al.out (fun h => by rw [hm] at h; exact c (by simpa using h.2)), ← HGX.out]; exact O5.out)
          rw [hm]
          clear O5 Al On HGq HBi z0 hm
          generalize nth vl i = y at *
          go_wp2
          first | exact HFi.out | (go_ret; exact HFi.out)
end Go.Proofs.Ytaobaiifbmhegaa

import Derived.Test.YtaobaiifbmhegaaOdBet
import Derived.Test.YtaobaiifbmhegaaFrAll
import Derived.Lib.SmallJoins

/-
  What the reference's ByRatio answers.
-/
namespace Go.Proofs.Ytaobaiifbmhegaa.od
open Go.RowKit
set_option linter.unusedVariables false
theorem ratZ_of2 (v w : List Int) (W : World) {w0 w' : World} {g : Nat} {Z : List Int} {e : Ending} (he : e = .returned (.tuple #[.slice (some ⟨g, 0, none⟩) v.length v.length, .int .i64 0])) (ho : Own W.heap.size g v.length v.length Z w0 w') (hw : W.heap.size = w0.heap.size)
    (hz : ∀ a, a < v.length → nth Z (rko (ltR v w) v.length a) = (a : Int)) : ∃ (g : Nat) (Z : List Int), e = .returned (.tuple #[.slice (some ⟨g, 0, none⟩) v.length v.length, .int .i64 0]) ∧ IsRk (ltR v w) v.length Z ∧ Ints w' (some ⟨g, 0, none⟩) Z ∧ Below w0.heap.size w0 w' ∧ w0.heap.size ≤ g :=
  ⟨g, Z, he, ⟨ho.1, hz⟩, ho.ints, by rw [← hw]; exact ho.2.2.2, by rw [← hw]; exact ho.2.1⟩
set_option maxRecDepth 100000 in
set_option maxHeartbeats 8000000 in
theorem rrat_ok2 (v w : List Int) (ho : ratOk v w) (bv : I64s v) (bw : I64s w) (va wa : Option Addr) (vc wc : Nat) (W : World) (h1 : Ints W va v) (h2 : Ints W wa w) :
    Calls Try.prog 59 #[.slice va v.length vc, .slice wa w.length wc] W fun e w' => ∃ (g : Nat) (Z : List Int), e = .returned (.tuple #[.slice (some ⟨g, 0, none⟩) v.length v.length, .int .i64 0]) ∧ IsRk (ltR v w) v.length Z ∧ Ints w' (some ⟨g, 0, none⟩) Z ∧ Below W.heap.size W w' ∧ W.heap.size ≤ g := by
  obtain ⟨i0, hi, hz0, hz1, hz2⟩ := info_parts info3
  obtain ⟨e1, e2, nv, nw⟩ := ho
  have hw0 : ∀ j, j < v.length → 0 ≤ nth w j := fun j hj => nw j (by omega)
  have HV : Hid (∀ X, Below W.heap.size W X → ∀ j, j < v.length → ∃ b o, va = some ⟨b, o, none⟩ ∧ X.cell? ⟨b, o + j, none⟩ = some (.int .i64 (nth v j)) ∧ 0 ≤ nth v j) := fun X hb j hj => by
    obtain ⟨b, o, e, _, c⟩ := h1.keep hb j hj
    exact ⟨b, o, e, c, nv j hj⟩
  have HW : Hid (∀ X, Below W.heap.size W X → ∀ j, j < v.length → ∃ b o, wa = some ⟨b, o, none⟩ ∧ X.cell? ⟨b, o + j, none⟩ = some (.int .i64 (nth w j)) ∧ 0 ≤ nth w j) := fun X hb j hj => by
    obtain ⟨b, o, e, _, c⟩ := h2.keep hb j (by omega)
    exact ⟨b, o, e, c, hw0 j hj⟩
  have HBt : Hid (∀ X, Below W.heap.size W X → ∀ x y : Nat, x < v.length → y < v.length → Calls Try.prog 74 #[.slice va v.length vc, .slice wa v.length wc, .int .i64 x, .int .i64 y] X fun e w' => e = .returned (.bool (ltR v w x y)) ∧ Below X.heap.size X w') :=
    fun X hb x y hx hy => better_any v w e1.symm bv bw va wa vc wc x y hx hy X (h1.keep hb) (h2.keep hb)
  obtain ⟨P, hP⟩ : ∃ P : Nat → Nat → Nat, ∀ a b, P a b = cb (fun z => ltR v w z a) b := ⟨_, fun _ _ => rfl⟩
  have HP0 : Hid (∀ a, P a 0 = 0) := fun a => by rw [hP, cb_zero]
  have HPy : Hid (∀ a b, ltR v w b a = true → P a (b + 1) = P a b + 1) := fun a b h => by rw [hP, hP]; exact cb_yes h
  have HPn : Hid (∀ a b, ltR v w b a = false → P a (b + 1) = P a b) := fun a b h => by rw [hP, hP]; exact cb_no (by simp [h])
  have HPl : Hid (∀ a b, P a b ≤ b) := fun a b => by rw [hP]; exact cb_le _ _
  have HPr : Hid (∀ a, P a v.length = rko (ltR v w) v.length a) := fun a => hP a _
  have HIr : Hid (∀ a, a < v.length → ltR v w a a = false) := fun a ha => by simpa using (ltR_ord _ v w hw0).irr a ha
  have HRin : Hid (∀ a, a < v.length → rko (ltR v w) v.length a < v.length) := fun a ha => rko_in (ltR_ord _ v w hw0) ha
  have HRne : Hid (∀ a b, a < v.length → b < v.length → a ≠ b → rko (ltR v w) v.length a ≠ rko (ltR v w) v.length b) := fun a b ha hb hab => rko_ne (ltR_ord _ v w hw0) ha hb hab
  have HEnd := Lib.hid (fun (X : World) (g : Nat) (Z : List Int) (w' : World) (e : Ending) (he : e = .returned (.tuple #[.slice (some ⟨g, 0, none⟩) v.length v.length, .int .i64 0])) (ho : Own X.heap.size g v.length v.length Z W w') (hw : X.heap.size = W.heap.size) hz => ratZ_of2 (w0 := W) v w X he ho hw hz)
  clear h1 h2 hP nv nw bv bw hw0
  have hl : w.length = v.length := e1.symm
  clear e1
  generalize w.length = m at *
  subst hl
  generalize hN : v.length = n at *
  clear hN
  have n1 : ¬ (64 : Int) < (n : Int) := by omega
  go_enter Try.func59, Try.ntmps59
  go_wp2
  go_loop [6] (fun i => ∃ k : Nat, k ≤ n ∧ i = .int .i64 k) (fun i => n - (intOf i).toNat)
  case atStart => exact ⟨0, by omega, rfl⟩
  case round =>
    obtain ⟨k, hk, rfl⟩ := hrel
    by_cases hlt : k < n
    · obtain ⟨b, o, rfl, c1, p1⟩ := HV.out _ (Below.refl _ _) k hlt
      obtain ⟨b', o', rfl, c2, p2⟩ := HW.out _ (Below.refl _ _) k hlt
      have q1 : ¬ nth v k < 0 := by omega
      have q2 : ¬ nth w k < 0 := by omega
      generalize nth v k = x at *
      generalize nth w k = y at *
      go_wp2
      go_round
      case rel => exact ⟨k + 1, by omega, by go_num⟩
      case measure => simp [intOf]; omega
    · obtain rfl : n = k := by omega
      go_wp2_with (at_make; refine wpList_make_full _ rfl _ _ 22 rfl W.heap.size 3 i0 (.int .i64 0) 1 Try.underlying22 hi hz0 hz1 .i64 .i64 _ _ n rfl rfl rfl rfl (by rw [hz2]; omega) (by unfold maxLen; omega) (Nat.le_refl _) ?_)
      intro w2 hown hgrow
      have A0 : Hid (Own W.heap.size W.heap.size n n (List.replicate n 0) W w2) := ⟨by simp, Nat.le_refl _, by rw [List.map_replicate, ← toList_madeCells_one]; exact hown, (Below.refl _ _).grown hgrow (Nat.le_refl _) (fun j hj => by cases hj)⟩
      clear hown hgrow
      obtain ⟨g, hg⟩ : ∃ g, g = W.heap.size := ⟨_, rfl⟩
      rw [← hg] at A0
      go_wp2
      rw [← hg]
      have HG := Lib.hid hg
      clear hg
      go_loopw [8] (fun i wr => ∃ (a : Nat) (Z : List Int), a ≤ n ∧ i = .int .i64 a ∧ Hid (∀ a', a' < a → nth Z (rko (ltR v w) n a') = (a' : Int)) ∧ Hid (Own g g n n Z W wr)) (fun i _ => n - (intOf i).toNat)
      case atStart => exact ⟨0, _, by omega, rfl, fun a' h => by omega, A0⟩
      case round =>
        clear A0
        obtain ⟨a, Z, ha, rfl, HZ, HO⟩ := hrel
        by_cases hlt : a < n
        · go_wp2
          go_loopw [9, 10] (fun i j wr' => ∃ b : Nat, b ≤ n ∧ i = .int .i64 (P a b : Nat) ∧ j = .int .i64 b ∧ Hid (Own g g n n Z W wr')) (fun _ j _ => n - (intOf j).toNat)
          case atStart => exact ⟨0, by omega, by rw [HP0.out]; rfl, rfl, HO⟩
          case round =>
            clear HO
            obtain ⟨b, hb, rfl, rfl, HO⟩ := hrel
            have hPl := HPl.out a b
            by_cases hlb : b < n
            · have bel := HO.out.2.2.2
              rw [HG.out] at bel
              by_cases hab : b = a
              · have hy := HPn.out a b (by rw [hab]; exact HIr.out a hlt)
                have hne : ((b : Int) != (a : Int)) = false := by simp [hab]
                clear bel
                generalize hpb : P a b = pb at *
                go_wp2
                go_roundw
                case rel => exact ⟨b + 1, by omega, by rw [hy], by go_num, HO⟩
                case measure => simp [intOf]; omega
              · have hne : ((b : Int) != (a : Int)) = true := by simp; omega
                have HBb := Lib.hid (HBt.out _ bel b a hlb hlt)
                clear bel
                by_cases hlt2 : ltR v w b a = true
                · have hy := HPy.out a b hlt2
                  rw [hlt2] at HBb
                  generalize P a b = pb at *
                  go_wp2_with fail
                  refine HBb.out.mono ?_; rintro e w3 ⟨rfl, b3⟩
                  have HO3 := Lib.hid (HO.out.keep b3)
                  clear b3
                  go_wp2
                  go_roundw
                  case rel => exact ⟨b + 1, by omega, by rw [hy]; go_num, by go_num, HO3⟩
                  case measure => simp [intOf]; omega
                · have hlf : ltR v w b a = false := by simpa using hlt2
                  have hy := HPn.out a b hlf
                  rw [hlf] at HBb
                  generalize hpb : P a b = pb at *
                  go_wp2_with fail
                  refine HBb.out.mono ?_; rintro e w3 ⟨rfl, b3⟩
                  have HO3 := Lib.hid (HO.out.keep b3)
                  clear b3
                  go_wp2
                  go_roundw
                  case rel => exact ⟨b + 1, by omega, by rw [hy], by go_num, HO3⟩
                  case measure => simp [intOf]; omega
            · obtain rfl : n = b := by omega
              have hr := HPr.out a
              have hri := HRin.out a hlt
              have HZ2 : Hid (∀ a', a' < a + 1 → nth (Z.set (rko (ltR v w) n a) a) (rko (ltR v w) n a') = (a' : Int)) := fun a' ha' => by
                rw [nth_set _ _ _ _ (by rw [HO.out.1]; exact hri)]
                by_cases e : a' = a
                · subst e; rw [if_pos rfl]
                · rw [if_neg (fun q => HRne.out a a' hlt (by omega) (fun q' => e q'.symm) q)]
                  exact HZ.out a' (by omega)
              have HOs := Lib.hid (HO.out.set (rko (ltR v w) n a) (a : Int))
              have fz := HO.out.frozen (rko (ltR v w) n a)
              have cz := HO.out.cell (rko (ltR v w) n a) hri
              rw [hr]
              generalize rko (ltR v w) n a = r at *
              go_wp2
              go_roundw
              case rel => exact ⟨a + 1, _, by omega, by go_num, HZ2, HOs⟩
              case measure => simp [intOf]; omega
        · obtain rfl : n = a := by omega
          go_wp2
          go_ret2
          obtain ⟨g', Z', h1, h2, h3, h4⟩ := HEnd.out W g Z _ _ rfl (by rw [← HG.out]; exact HO.out) rfl HZ.out
          exact ⟨g', Z', h1, h2, h3, h4⟩
end Go.Proofs.Ytaobaiifbmhegaa.od

/-
  The reference's knapsack.
-/
namespace Go.Proofs.Ytaobaiifbmhegaa
open Go.RowKit
set_option linter.unusedVariables false
theorem on_rk {n : Nat} {lt : Nat → Nat → Bool} (h : od.LtO n lt) {T : List Int} (hT : od.IsRk lt n T) : od.OnRk lt n T := fun x hx => by
  have hm : (x : Int) ∈ (List.range n).map (fun (a : Nat) => (od.rko lt n a : Int)) := by
    refine od.nodup_all n _ ?_ ?_ (by simp) x hx
    · rw [List.nodup_iff_pairwise_ne, List.pairwise_map]
      refine (List.pairwise_lt_range (n := n)).imp_of_mem ?_
      intro a b ha hb hab
      have := od.rko_ne h (List.mem_range.1 ha) (List.mem_range.1 hb) (by omega)
      omega
    · intro y hy
      obtain ⟨a, ha, rfl⟩ := List.mem_map.1 hy
      have := od.rko_in h (List.mem_range.1 ha)
      omega
  obtain ⟨a, ha, e⟩ := List.mem_map.1 hm
  have ea : od.rko lt n a = x := by omega
  exact ⟨a, List.mem_range.1 ha, ea, by rw [← ea]; exact hT.2 a (List.mem_range.1 ha)⟩
/-- what the reference's knapsack leaves -/
def RkP (C : Int) (wl vl : List Int) (n : Nat) (w : World) (e : Ending) (w' : World) : Prop :=
  ∃ g T, e = .returned (.slice (some ⟨g, 0, none⟩) n n) ∧ od.IsRk (od.ltR vl wl) n T ∧ od.Own w.heap.size g n n (packR C wl vl T) w w'
set_option maxRecDepth 100000 in
set_option maxHeartbeats 8000000 in
theorem rpack_any (K C : Int) (wl vl : List Int) (v5 : Value) (n : Nat) (hw : wl.length = n) (hF : ItF wl vl) (hn : 1 ≤ n) (hC : 0 ≤ C ∧ C ≤ 2147483647) (wa va : Option Addr) (wc vc : Nat) (w : World) (h1 : Ints w wa wl) (h2 : Ints w va vl) :
    Calls Try.prog 36 #[.agg #[.int .i64 K, .int .i64 n, .int .i64 C, .slice wa n wc, .slice va n vc, v5]] w (RkP C wl vl n w) := by
  obtain ⟨i0, hi, hz0, hz1, hz2⟩ := info_parts od.info3
  have hv : vl.length = n := by have := hF.2.1; omega
  have h64 : n ≤ 64 := by have := hF.1; omega
  have bA : Below w.heap.size w (w.alloc (ob K n C (.slice wa n wc) (.slice va n vc) v5)) := bl_al (Below.refl _ _) _
  have BA := Lib.hid bA
  have q0 := Lib.hid (heap_alloc_new w (ob K n C (.slice wa n wc) (.slice va n vc) v5))
  have HB6 := Lib.hid (fun (W : World) (h : Below (w.alloc (ob K n C (.slice wa n wc) (.slice va n vc) v5)).heap.size (w.alloc (ob K n C (.slice wa n wc) (.slice va n vc) v5)) W) => box6 ((h.block _ (lt_hp q0.out)).trans q0.out))
  have HW : Hid (∀ W, Below (w.alloc (ob K n C (.slice wa n wc) (.slice va n vc) v5)).heap.size (w.alloc (ob K n C (.slice wa n wc) (.slice va n vc) v5)) W → ∀ j, j < n → ∃ b o, wa = some ⟨b, o, none⟩ ∧ b < (w.alloc (ob K n C (.slice wa n wc) (.slice va n vc) v5)).heap.size ∧ W.cell? ⟨b, o + j, none⟩ = some (.int .i64 (nth wl j))) := fun W hW j hj => by
    obtain ⟨b, o, e1, e2, e3⟩ := (h1.keep bA) j (by omega)
    exact ⟨b, o, e1, e2, by unfold nth; exact (hW.cell (p := ⟨b, o + j, none⟩) e2).trans e3⟩
  have HV : Hid (∀ W, Below (w.alloc (ob K n C (.slice wa n wc) (.slice va n vc) v5)).heap.size (w.alloc (ob K n C (.slice wa n wc) (.slice va n vc) v5)) W → ∀ j, j < n → ∃ b o, va = some ⟨b, o, none⟩ ∧ b < (w.alloc (ob K n C (.slice wa n wc) (.slice va n vc) v5)).heap.size ∧ W.cell? ⟨b, o + j, none⟩ = some (.int .i64 (nth vl j))) := fun W hW j hj => by
    obtain ⟨b, o, e1, e2, e3⟩ := (h2.keep bA) j (by omega)
    exact ⟨b, o, e1, e2, by unfold nth; exact (hW.cell (p := ⟨b, o + j, none⟩) e2).trans e3⟩
  have HR : Hid (∀ W, Below (w.alloc (ob K n C (.slice wa n wc) (.slice va n vc) v5)).heap.size (w.alloc (ob K n C (.slice wa n wc) (.slice va n vc) v5)) W → Calls Try.prog 59 #[.slice va n vc, .slice wa n wc] W fun e W' => ∃ g T, e = .returned (.tuple #[.slice (some ⟨g, 0, none⟩) n n, .int .i64 0]) ∧ Hid (od.IsRk (od.ltR vl wl) n T) ∧ Hid (∀ j, j < n → W'.cell? ⟨g, j, none⟩ = some (.int .i64 (nth T j))) ∧ Hid (W.heap.size ≤ g) ∧ Hid (Below W.heap.size W W')) := fun W hW => by
    have r := od.rrat_ok2 vl wl (rat_ok hw hF) (i64s_of hv (fun j hj => (hF.2.2 j (by omega)).2)) (i64s_of hw (fun j hj => (hF.2.2 j (by omega)).1)) va wa vc wc W (ints_od ((h2.keep bA).keep hW)) (ints_od ((h1.keep bA).keep hW))
    rw [hv, hw] at r
    refine r.mono fun e W' ⟨g, T, e1, t1, t3, t4, t5⟩ => ⟨g, T, e1, t1, fun j hj => ?_, t5, t4⟩
    obtain ⟨b, o, eb, _, c⟩ := t3 j (by rw [t1.1]; exact hj)
    injection eb with eb; injection eb with eb1 eb2; subst eb1; subst eb2
    rw [Nat.zero_add, od_nth] at c; exact c
  have HOn : Hid (∀ T, od.IsRk (od.ltR vl wl) n T → OrdF T n) := fun T h => ord_of h (on_rk (od.ltR_ord n vl wl (fun j hj => by rw [od_nth]; exact (hF.2.2 j (by omega)).1.1)) h)
  have HPg := Lib.hid (fun (T : List Int) (t : Nat) (hT : OrdF T n) (ht : t ≤ n) => pk_good hC.1 hF (by rw [hw]; exact hT) t (by omega))
  have HPz : Hid (∀ T, pkR C wl vl T 0 = (List.replicate n 0, C, 0)) := fun T => by rw [pk_zero, hw]
  have HPy := Lib.hid (fun (T : List Int) (t : Nat) h => pk_yes (C := C) (wl := wl) (vl := vl) (l := T) (t := t) h)
  have HPn := Lib.hid (fun (T : List Int) (t : Nat) h => pk_no (C := C) (wl := wl) (vl := vl) (l := T) (t := t) h)
  have HF := Lib.hid (fun j (hj : j < n) => hF.2.2 j (by omega))
  have HBi := Lib.hid (ba_in C wl vl)
  have HB0 := Lib.hid (ba_zero C wl vl)
  have HBy := Lib.hid (fun k h h1 => ba_yes (C := C) (wl := wl) (vl := vl) (k := k) h h1)
  have HBn := Lib.hid (fun k h => ba_no (C := C) (wl := wl) (vl := vl) (k := k) h)
  have HOne : Hid (∀ (T : List Int) (i : Nat), T.length = n → baR C wl vl n = (i : Int) → (pkR C wl vl T n).2.2 < nth vl i → packR C wl vl T = (List.replicate n 0).set i 1) := fun T i hT h h1 => by
    have := pack_one (C := C) (wl := wl) (vl := vl) (l := T) (by rw [hw, h]; omega) (by rw [hw, h, hT]; exact h1)
    rw [hw, h] at this; exact this
  have HAll : Hid (∀ (T : List Int), T.length = n → ¬ (0 ≤ baR C wl vl n ∧ (pkR C wl vl T n).2.2 < nth vl (baR C wl vl n).toNat) → packR C wl vl T = (pkR C wl vl T n).1) := fun T hT h => by
    have := pack_all (C := C) (wl := wl) (vl := vl) (l := T) (by rw [hw, hT]; exact h)
    rw [hT] at this; exact this
  have HG : Hid (∀ (g : Nat) (T : List Int) (W' : World), od.IsRk (od.ltR vl wl) n T → od.Own (w.alloc (ob K n C (.slice wa n wc) (.slice va n vc) v5)).heap.size g n n (packR C wl vl T) (w.alloc (ob K n C (.slice wa n wc) (.slice va n vc) v5)) W' → RkP C wl vl n w (.returned (.slice (some ⟨g, 0, none⟩) n n)) W') := fun g T W' t1 h => ⟨g, T, rfl, t1, h.down bA bA.size⟩
  have hrefl := Lib.hid (Below.refl (w.alloc (ob K n C (.slice wa n wc) (.slice va n vc) v5)).heap.size (w.alloc (ob K n C (.slice wa n wc) (.slice va n vc) v5)))
  have HXs := Lib.hid (lt_hp q0.out)
  unfold ob at *
  clear h1 h2 hv bA hF hw q0
  generalize RkP C wl vl n w = G at *
  go_enter Try.func36, Try.ntmps36
  go_upto_region 1 with fail
  generalize w.alloc (.cells #[.int .i64 K, .int .i64 n, .int .i64 C, .slice wa n wc, .slice va n vc, v5] 25) = X at *
  obtain ⟨e0, e1, e2, e3, e4, e5⟩ := HB6.out X hrefl.out
  go_wp2_with (at_make; refine wpList_make_full _ rfl _ _ 22 rfl X.heap.size 3 i0 (.int .i64 0) 1 Try.underlying22 hi hz0 hz1 .i64 .i64 _ _ n rfl rfl rfl rfl (by rw [hz2]; omega) (by unfold maxLen; omega) (Nat.le_refl _) ?_)
  intro w2 hown hgrow
  have A0 : Hid (od.Own X.heap.size X.heap.size n n (List.replicate n 0) X w2) := ⟨by simp, Nat.le_refl _, by rw [List.map_replicate, ← toList_madeCells_one]; exact hown, (Below.refl _ _).grown hgrow (Nat.le_refl _) (fun j hj => by cases hj)⟩
  clear hown hgrow e0 e1 e2 e3 e4 e5
  obtain ⟨gx, hgx⟩ : ∃ gx, gx = X.heap.size := ⟨_, rfl⟩
  rw [← hgx] at A0
  have HGX := Lib.hid hgx
  obtain ⟨e0, e1, e2, e3, e4, e5⟩ := HB6.out w2 (by rw [← hgx]; exact A0.out.2.2.2)
  have R2 := Lib.hid (HR.out w2 (by rw [← hgx]; exact A0.out.2.2.2))
  rw [← hgx]
  clear hgx HR hrefl
  go_wp2_with fail
  refine R2.out.mono ?_; rintro e w3 ⟨gT, T, rfl, T1, TC, TG, hb3⟩
  have A1 : Hid (od.Own gx gx n n (pkR C wl vl T 0).1 X w3) := by
    show od.Own _ _ _ _ _ _ _
    rw [HPz.out T]; exact A0.out.keep hb3.out
  have hne : gx ≠ gT := by
    have := TG.out
    have := own_lt A0.out
    omega
  have hT := Lib.hid (HOn.out T T1.out)
  clear A0 hb3 R2 TG e0 e1 e2 e3 e4 e5
  obtain ⟨e0, e1, e2, e3, e4, e5⟩ := HB6.out w3 (by rw [← HGX.out]; exact A1.out.2.2.2)
  have HZ1 : Hid ((pkR C wl vl T 0).2.1 = C ∧ (pkR C wl vl T 0).2.2 = 0) := by show _ ∧ _; rw [HPz.out T]; exact ⟨rfl, rfl⟩
  go_wp2
  go_loopw [6, 7, 8] (fun v6 v7 i wr => ∃ t : Nat, t ≤ n ∧ i = .int .i64 t ∧ v6 = .int .i64 (pkR C wl vl T t).2.1 ∧ v7 = .int .i64 (pkR C wl vl T t).2.2 ∧ Hid (od.Own gx gx n n (pkR C wl vl T t).1 X wr) ∧ Hid (∀ j, j < n → wr.cell? ⟨gT, j, none⟩ = some (.int .i64 (nth T j)))) (fun _ _ i _ => n - (intOf i).toNat)
  case atStart => exact ⟨0, by omega, rfl, by rw [HZ1.out.1], by rw [HZ1.out.2], A1, TC⟩
  case round =>
    clear A1 TC e0 e1 e2 e3 e4 e5
    obtain ⟨t, ht, rfl, rfl, rfl, HP, TC⟩ := hrel
    have hbw : Below X.heap.size X wr := by rw [← HGX.out]; exact HP.out.2.2.2
    obtain ⟨e0, e1, e2, e3, e4, e5⟩ := HB6.out wr hbw
    by_cases hlt : t < n
    · have q1 : (t : Int) < (n : Int) := by omega
      have q0 : (0 : Int) ≤ (t : Int) := by omega
      have tr := hT.out.2.1 t hlt
      obtain ⟨k, hk⟩ : ∃ k : Nat, nth T t = (k : Int) := ⟨(nth T t).toNat, by omega⟩
      have kn : k < n := by omega
      have k1 : (k : Int) < (n : Int) := by omega
      have k0 : (0 : Int) ≤ (k : Int) := by omega
      have kt : (nth T t).toNat = k := by omega
      have d0 := TC.out t hlt
      rw [hk] at d0
      obtain ⟨bw, ow, rfl, bw1, d1⟩ := HW.out wr hbw k kn
      obtain ⟨bv, ov, rfl, bv1, d2⟩ := HV.out wr hbw k kn
      have nbw : bw ≠ gx := by have := HGX.out; omega
      have nbv : bv ≠ gx := by have := HGX.out; omega
      have nbx : w.heap.size ≠ gx := by have := HGX.out; have := HXs.out; omega
      have PG := Lib.hid (HPg.out T t hT.out ht)
      have FK := Lib.hid (HF.out k kn)
      have Py := Lib.hid (HPy.out T t)
      have Pn := Lib.hid (HPn.out T t)
      rw [kt] at Py Pn
      have fz := HP.out.frozen k
      have dx := HP.out.cell k kn
      have gr := PG.out.roomR
      have gw := PG.out.worth
      have fk := FK.out
      clear hk kt tr PG FK hbw
      have TCn : Hid (∀ W : World, (∀ j, j < n → W.cell? ⟨gT, j, none⟩ = some (.int .i64 (nth T j))) → ∀ j, j < n → (W.setCell ⟨gx, k, none⟩ (.int .i64 1)).cell? ⟨gT, j, none⟩ = some (.int .i64 (nth T j))) := fun W h j hj => by
        rw [World.cell?_setCell_other _ _ _ _ (fun e => hne (congrArg Addr.block e))]; exact h j hj
      by_cases c : nth wl k ≤ (pkR C wl vl T t).2.1
      · have E := Lib.hid (Py.out c)
        have S1 : Hid (∀ W, od.Own gx gx n n (pkR C wl vl T t).1 X W → od.Own gx gx n n (pkR C wl vl T (t + 1)).1 X (W.setCell ⟨gx, k, none⟩ (.int .i64 1))) := fun W h => by rw [E.out]; exact h.set k 1
        have S3 : Hid ((pkR C wl vl T (t + 1)).2.1 = (pkR C wl vl T t).2.1 - nth wl k ∧ (pkR C wl vl T (t + 1)).2.2 = (pkR C wl vl T t).2.2 + nth vl k) := by show _ ∧ _; rw [E.out]; exact ⟨rfl, rfl⟩
        clear E Py Pn
        generalize (pkR C wl vl T t).2.1 = room at *
        generalize (pkR C wl vl T t).2.2 = worth at *
        generalize od.nth (pkR C wl vl T t).1 k = xk at *
        generalize nth wl k = wk at *
        generalize nth vl k = vk at *
        go_wp2
        go_quiet (fail)
        go_wp2
        go_quiet (fail)
        go_wp2
        go_quiet (fail)
        go_wp2
        go_roundw
        case rel => exact ⟨t + 1, by omega, by go_num, by rw [S3.out.1], by rw [S3.out.2], (S1.out _ (HP.out.keep (od.bl_dn (Below.refl _ _) _))).keep (od.bl_dn (Below.refl _ _) _), TCn.out _ TC.out⟩
        case measure => simp [intOf]; omega
      · have E := Lib.hid (Pn.out (by omega))
        clear Py Pn
        generalize hu : pkR C wl vl T t = u at *
        have HU := Lib.hid hu
        clear hu
        obtain ⟨u1, room, worth⟩ := u
        simp only at *
        generalize od.nth u1 k = xk at *
        generalize nth wl k = wk at *
        generalize nth vl k = vk at *
        go_wp2
        go_quiet (fail)
        go_wp2
        go_roundw
        case rel => exact ⟨t + 1, by omega, by go_num, by rw [E.out], by rw [E.out], by rw [E.out]; exact HP.out.keep (od.bl_dn (Below.refl _ _) _), TC.out⟩
        case measure => simp [intOf]; omega
    · obtain rfl : n = t := by omega
      have hl := T1.out.1
      have On := Lib.hid (fun i => HOne.out T i hl)
      have Al := Lib.hid (HAll.out T hl)
      have HGq := Lib.hid (fun (g : Nat) (W' : World) (h : od.Own X.heap.size g n n (packR C wl vl T) X W') => HG.out g T W' T1.out h)
      have gw := (HPg.out T n hT.out (Nat.le_refl _)).worth
      have HWr := Lib.hid (fun j hj => HW.out wr hbw j hj)
      have HVr := Lib.hid (fun j hj => HV.out wr hbw j hj)
      clear HPg HPz HPy HPn HOne HAll HG TC T1 hT hlt HW HV
      generalize hU : pkR C wl vl T n = u at *
      obtain ⟨u1, room, worth⟩ := u
      simp only at *
      go_wp2
      go_loopw [9, 10] (fun v i wq => ∃ k : Nat, k ≤ n ∧ i = .int .i64 k ∧ v = .int .i64 (baR C wl vl k) ∧ ∃ m, wq = wr.drewN m) (fun _ i _ => n - (intOf i).toNat)
      case atStart => exact ⟨0, by omega, rfl, by rw [HB0.out], 0, rfl⟩
      case round =>
        obtain ⟨k, hk, rfl, rfl, m, rfl⟩ := hrel
        by_cases hlt : k < n
        · have q1 : (k : Int) < (n : Int) := by omega
          have q0 : (0 : Int) ≤ (k : Int) := by omega
          obtain ⟨b, o, rfl, _, d1⟩ := HWr.out k hlt
          obtain ⟨b2, o2, rfl, _, d2⟩ := HVr.out k hlt
          have IN := Lib.hid (HBi.out k)
          by_cases u : nth wl k ≤ C
          rotate_left
          · have E : Hid (baR C wl vl (k + 1) = baR C wl vl k) := HBn.out k (fun h => u h.1)
            generalize hz : baR C wl vl k = z at *
            have HZ := Lib.hid hz
            clear hz
            have cb := decide_eq_false u
            generalize nth wl k = y at *
            generalize nth vl k = y2 at *
            go_wp2
            go_quiet (fail)
            go_wp2
            go_roundw
            case rel => exact ⟨k + 1, by omega, by go_num, by rw [E.out], _, rfl⟩
            case measure => simp [intOf]; omega
          · by_cases z0 : baR C wl vl k < 0
            · have E : Hid (baR C wl vl (k + 1) = (k : Int)) := HBy.out k u (.inl z0)
              have cb := decide_eq_true u
              have cb2 := decide_eq_true z0
              generalize baR C wl vl k = z at *
              generalize nth wl k = y at *
              generalize nth vl k = y2 at *
              go_wp2
              go_quiet (fail)
              go_wp2
              go_roundw
              case rel => exact ⟨k + 1, by omega, by go_num, by rw [E.out], _, rfl⟩
              case measure => simp [intOf]; omega
            · obtain ⟨i, hm⟩ : ∃ i : Nat, baR C wl vl k = (i : Int) := ⟨(baR C wl vl k).toNat, by omega⟩
              have hmk : i < k := by have := IN.out.2.1; omega
              obtain ⟨b', o', eb, _, d3⟩ := HVr.out i (by omega)
              injection eb with eb; injection eb with eb1 eb2; subst eb1; subst eb2
              have m1 : (i : Int) < (n : Int) := by omega
              have m0 : (0 : Int) ≤ (i : Int) := by omega
              have m2 : ¬ (i : Int) < 0 := by omega
              by_cases c : nth vl i < nth vl k
              · have E : Hid (baR C wl vl (k + 1) = (k : Int)) := HBy.out k u (.inr (by rw [hm]; exact c))
                rw [hm]
                have cb := decide_eq_true u
                have cb2 := decide_eq_false m2
                have cb3 := decide_eq_true c
                clear z0 hm
                generalize nth wl k = y at *
                generalize nth vl k = y2 at *
                generalize nth vl i = y3 at *
                go_wp2
                go_quiet (fail)
                go_wp2
                go_roundw
                case rel => exact ⟨k + 1, by omega, by go_num, by rw [E.out], _, rfl⟩
                case measure => simp [intOf]; omega
              · have E : Hid (baR C wl vl (k + 1) = (i : Int)) := by
                  have := HBn.out k (fun h => h.2.elim z0 (fun h => c (by rw [hm] at h; exact h)))
                  rw [hm] at this; exact this
                rw [hm]
                have cb := decide_eq_true u
                have cb2 := decide_eq_false m2
                have cb3 := decide_eq_false c
                clear z0 hm
                generalize nth wl k = y at *
                generalize nth vl k = y2 at *
                generalize nth vl i = y3 at *
                go_wp2
                go_quiet (fail)
                go_wp2
                go_roundw
                case rel => exact ⟨k + 1, by omega, by go_num, by rw [E.out], _, rfl⟩
                case measure => simp [intOf]; omega
        · obtain rfl : n = k := by omega
          have O5 := Lib.hid (HP.out.keep (od.bl_dn (Below.refl wr.heap.size wr) m))
          have BI := Lib.hid (HBi.out n)
          have B5 := Lib.hid (O5.out.2.2.2)
          obtain ⟨e0, e1, e2, e3, e4, e5⟩ := HB6.out (wr.drewN m) (by rw [← HGX.out]; exact O5.out.2.2.2)
          by_cases z0 : baR C wl vl n < 0
          · have HFi : Hid (G (.returned (.slice (some ⟨gx, 0, none⟩) n n)) (wr.drewN m)) := HGq.out gx _ (by rw [Al.out (fun h => by omega), ← HGX.out]; exact O5.out)
            clear O5 Al On HGq HBi HP
            generalize baR C wl vl n = z at *
            generalize wr.drewN m = w5 at *
            go_wp2
            first | exact HFi.out | (go_at_K; go_wp2; exact HFi.out) | (go_ret; exact HFi.out)
          · obtain ⟨i, hm⟩ : ∃ i : Nat, baR C wl vl n = (i : Int) := ⟨(baR C wl vl n).toNat, by omega⟩
            have hin : i < n := by have := BI.out.2.1; omega
            have i0' : ¬ (i : Int) < 0 := by omega
            have i1 : (0 : Int) ≤ (i : Int) := by omega
            have i2 : (i : Int) < (n : Int) := by omega
            obtain ⟨bv, ov, rfl, bv1, d2⟩ := HVr.out i hin
            have d2' : (wr.drewN m).cell? ⟨bv, ov + i, none⟩ = some (.int .i64 (nth vl i)) := d2
            by_cases c : worth < nth vl i
            · have HFi : Hid (∀ W, od.Own X.heap.size (wr.drewN m).heap.size n n ((List.replicate n 0).set i 1) X W → G (.returned (.slice (some ⟨(wr.drewN m).heap.size, 0, none⟩) n n)) W) := fun W h => HGq.out _ W (by rw [On.out i hm c]; exact h)
              rw [hm]
              clear Al On HGq HBi z0 hm HP d2 BI
              generalize nth vl i = y at *
              have hsz := Lib.hid (O5.out.2.2.2.size)
              generalize wr.drewN m = w5 at *
              go_wp2_with (at_make; refine wpList_make_full _ rfl _ _ 22 rfl w5.heap.size 3 i0 (.int .i64 0) 1 Try.underlying22 hi hz0 hz1 .i64 .i64 _ _ n rfl rfl rfl rfl (by rw [hz2]; omega) (by unfold maxLen; omega) (Nat.le_refl _) ?_)
              intro w6 hown hgrow
              have A6 : Hid (od.Own X.heap.size w5.heap.size n n (List.replicate n 0) X w6) := od.Own.down (w1 := w5) ⟨by simp, Nat.le_refl _, by rw [List.map_replicate, ← toList_madeCells_one]; exact hown, (Below.refl _ _).grown hgrow (Nat.le_refl _) (fun j hj => by cases hj)⟩ (by rw [← HGX.out]; exact B5.out) (by rw [← HGX.out]; have := B5.out.size; have := hsz.out; rw [HGX.out] at *; omega)
              have fz := A6.out.frozen i
              have dx := A6.out.cell i hin
              have HFj := Lib.hid (HFi.out _ (A6.out.set i 1))
              clear hown hgrow O5 HFi A6 e0 e1 e2 e3 e4 e5
              generalize w5.heap.size = gy at *
              go_wp2
              first | exact HFj.out | (go_at_K; go_wp2; exact HFj.out) | (go_ret; exact HFj.out)
            · have HFi : Hid (G (.returned (.slice (some ⟨gx, 0, none⟩) n n)) (wr.drewN m)) := HGq.out gx _ (by rw [Al.out (fun h => by rw [hm] at h; exact c (by simpa using h.2)), ← HGX.out]; exact O5.out)
              rw [hm]
              clear O5 Al On HGq HBi z0 hm HP d2 BI
              generalize nth vl i = y at *
              generalize wr.drewN m = w5 at *
              go_wp2
              first | exact HFi.out | (go_at_K; go_wp2; exact HFi.out) | (go_ret; exact HFi.out)
end Go.Proofs.Ytaobaiifbmhegaa

/-
  The reference's First of rows.
-/
namespace Go.Proofs.Ytaobaiifbmhegaa
open Go.RowKit
set_option linter.unusedVariables false
structure Rm (B gu gx cap : Nat) (X : List Int) (w0 wr : World) : Prop where
  blk : ∃ C : Array Value, wr.heap[gu]? = some (.cells C 49 (0, 0)) ∧ C.size = 24 ∧ ∀ v, v < 24 → C[v]? = some (.bool (decide ((v : Int) ∈ X)))
  own : wr.ownsRow (gu + 1) 3 1 (.slice (some ⟨gx, 0, none⟩) X.length cap) X.length (X.map (Value.int .i64))
  low : B ≤ gu
  bel : Below B w0 wr
theorem Rm.cell {B gu gx cap : Nat} {X : List Int} {w0 wr : World} (h : Rm B gu gx cap X w0 wr) (v : Nat) (hv : v < 24) : wr.cell? ⟨gu, v, none⟩ = some (.bool (decide ((v : Int) ∈ X))) := by
  obtain ⟨C, h1, h2, h3⟩ := h.blk
  rw [Joins.cell_of_block h1, h3 v hv]
theorem Rm.froz {B gu gx cap : Nat} {X : List Int} {w0 wr : World} (h : Rm B gu gx cap X w0 wr) (v : Nat) : wr.frozen? ⟨gu, v, none⟩ = false := by
  obtain ⟨C, h1, h2, h3⟩ := h.blk
  exact Joins.unfrozen_of_block h1 v
theorem Rm.size {B gu gx cap : Nat} {X : List Int} {w0 wr : World} (h : Rm B gu gx cap X w0 wr) : gu + 1 ≤ wr.heap.size := by
  obtain ⟨C, h1, h2, h3⟩ := h.blk
  have := lt_hp h1; omega
theorem Rm.gole {B gu gx cap : Nat} {X : List Int} {w0 wr : World} (h : Rm B gu gx cap X w0 wr) : gu + 1 ≤ gx := (row_blk h.own).1
theorem Rm.keep {B gu gx cap : Nat} {X : List Int} {w0 wr w1 : World} (h : Rm B gu gx cap X w0 wr) (hb : Below wr.heap.size wr w1) : Rm B gu gx cap X w0 w1 := by
  obtain ⟨C, h1, h2, h3⟩ := h.blk
  exact ⟨⟨C, (hb.block _ (lt_hp h1)).trans h1, h2, h3⟩, row_keep h.own hb, h.low, h.bel.trans (hb.mono (by have := h.low; have := lt_hp h1; omega))⟩
theorem Rm.osto {B gu gx cap : Nat} {X : List Int} {w0 wr : World} (h : Rm B gu gx cap X w0 wr) (v : Nat) : (wr.setCell ⟨gu, v, none⟩ (.bool true)).ownsRow (gu + 1) 3 1 (.slice (some ⟨gx, 0, none⟩) X.length cap) X.length (X.map (Value.int .i64)) :=
  ownsRow_setCell_below h.own (by show gu < gu + 1; omega) _
theorem Rm.ocell {B gu gx cap : Nat} {X : List Int} {w0 wr : World} (h : Rm B gu gx cap X w0 wr) (j : Nat) (hj : j < X.length) : wr.cell? ⟨gx, j, none⟩ = some (.int .i64 (nth X j)) := by
  rw [h.own.cellAt j (by omega), List.getElem?_map, List.getElem?_eq_getElem hj, nth_at X j hj]
  rfl
theorem mem_app (v : Nat) (X : List Int) (c : Nat) : decide ((v : Int) ∈ X ++ [(c : Int)]) = if c = v then true else decide ((v : Int) ∈ X) := by
  by_cases e : c = v
  · subst e; simp
  · rw [if_neg e]
    have : ¬ (v : Int) = (c : Int) := by omega
    simp [this]
theorem Rm.next {B gu gx cap : Nat} {X : List Int} {w0 wr w3 : World} (h : Rm B gu gx cap X w0 wr) (c : Nat) (hc : c < 24) {gx2 cap2 : Nat} (o : Obj)
    (hown : w3.ownsRow (gu + 1) 3 1 (.slice (some ⟨gx2, 0, none⟩) (X.length + 1) cap2) (X.length + 1) (X.map (Value.int .i64) ++ [.int .i64 c]))
    (hgr : ((wr.setCell ⟨gu, c, none⟩ (.bool true)).alloc o).grownBy w3 (Value.slice (some ⟨gx, 0, none⟩) X.length cap).ownBlock) : Rm B gu gx2 cap2 (X ++ [(c : Int)]) w0 w3 := by
  have hs2 := h.size
  have hgo := h.gole
  have hs1 := (((Below.refl (gu + 1) wr).mono (Nat.le_succ gu)).setCell (p := ⟨gu, c, none⟩) (Nat.le_refl _) (.bool true)).size
  have hb : Below (gu + 1) (wr.setCell ⟨gu, c, none⟩ (.bool true)) w3 := ((Below.refl (gu + 1) _).alloc (by omega) o).grown hgr (by have := ((Below.refl (gu + 1) (wr.setCell ⟨gu, c, none⟩ (.bool true))).alloc (by omega) o).size; omega) (fun j hj => by simp [Value.ownBlock] at hj; omega)
  obtain ⟨C, h1, h2, h3⟩ := h.blk
  refine ⟨⟨C.setIfInBounds c (.bool true), (hb.block gu (by omega)).trans (Joins.block_setCell h1 _), by simpa using h2, fun u hu => ?_⟩, ?_, h.low, ?_⟩
  · rw [mem_app, Array.getElem?_setIfInBounds, h3 u hu]
    by_cases h4 : c = u
    · subst h4; simp; omega
    · rw [if_neg h4, if_neg h4]
  · rw [List.length_append, List.map_append]
    exact hown
  · exact (h.bel.setCell (p := ⟨gu, c, none⟩) h.low _).trans (hb.mono (by have := h.low; omega))
theorem od.alloc2' (w : World) (A B : Obj) : ((w.alloc A).alloc B).heap[w.heap.size]? = some A := heap_alloc2_old w A B
/-- the first city: its number stands, then it is marked -/
theorem rm_first {B gu gx cap : Nat} {w0 W w3 : World} (hW : Rm B gu gx cap [] w0 W) {gx2 cap2 : Nat} (o : Obj) (hown : w3.ownsRow (gu + 1) 3 1 (.slice (some ⟨gx2, 0, none⟩) 1 cap2) 1 [.int .i64 0]) (hgr : (W.alloc o).grownBy w3 (Value.slice (some ⟨gx, 0, none⟩) 0 cap).ownBlock) :
    Rm B gu gx2 cap2 [0] w0 (w3.setCell ⟨gu, 0, none⟩ (.bool true)) ∧ w3.frozen? ⟨gu, 0, none⟩ = false ∧ w3.cell? ⟨gu, 0, none⟩ = some (.bool false) := by
  have hs2 := hW.size
  have hgo := hW.gole
  have hb : Below (gu + 1) W w3 := ((Below.refl (gu + 1) _).alloc (by omega) o).grown hgr (by have := ((Below.refl (gu + 1) W).alloc (by omega) o).size; omega) (fun j hj => by simp [Value.ownBlock] at hj; omega)
  obtain ⟨C, h1, h2, h3⟩ := hW.blk
  have q : w3.heap[gu]? = some (.cells C 49 (0, 0)) := (hb.block gu (by omega)).trans h1
  refine ⟨⟨⟨C.setIfInBounds 0 (.bool true), Joins.block_setCell q _, by simpa using h2, fun u hu => ?_⟩, ?_, hW.low, ?_⟩, Joins.unfrozen_of_block q 0, ?_⟩
  · have := mem_app u [] 0
    rw [List.nil_append] at this
    rw [show ([0] : List Int) = [((0 : Nat) : Int)] from rfl, this, Array.getElem?_setIfInBounds, h3 u hu]
    by_cases h4 : 0 = u
    · subst h4; simp [h2]
    · rw [if_neg h4, if_neg h4]
  · exact ownsRow_setCell_below hown (by show gu < gu + 1; omega) _
  · exact (hW.bel.trans (hb.mono (by have := hW.low; omega))).setCell (p := ⟨gu, 0, none⟩) hW.low _
  · rw [Joins.cell_of_block q, h3 0 (by omega)]; rfl
def slen : Value → Nat
  | .slice _ m _ => m
  | _ => 0
/-- what the reference's First leaves -/
def RsP (K N C : Int) (wl vl : List Int) (cl : List (List Int)) (w : World) (e : Ending) (w' : World) : Prop :=
  (chk K N C wl vl cl ≠ 0 ∧ e = .returned (.tuple #[.slice none 0 0, .int .i64 (chk K N C wl vl cl)]) ∧ Below w.heap.size w w') ∨
  (chk K N C wl vl cl = 0 ∧ ∃ g cap x, e = .returned (.tuple #[.slice (some ⟨g, 0, none⟩) x.length cap, .int .i64 0]) ∧ FirstR K C wl vl cl x ∧ od.Own w.heap.size g x.length cap x w w')
set_option maxRecDepth 100000 in
set_option maxHeartbeats 8000000 in
theorem rrows_asg (C : Int) (v3 v4 : Value) (cl : List (List Int)) (n : Nat) (hl : cl.length = n) (hp : rowsP cl) (hn : 1 ≤ n) (h24 : n ≤ 24) (ca : Option Addr) (cc : Nat) (w : World) (h : Rws w ca cl)
    (hC : Calls Try.prog 35 #[.agg #[.int .i64 2, .int .i64 n, .int .i64 C, v3, v4, .slice ca n cc]] (w.alloc (ob 2 n C v3 v4 (.slice ca n cc))) fun e w' => e = .returned (.int .i64 0) ∧ Below (w.alloc (ob 2 n C v3 v4 (.slice ca n cc))).heap.size (w.alloc (ob 2 n C v3 v4 (.slice ca n cc))) w') :
    Calls Try.prog 11 #[.agg #[.int .i64 2, .int .i64 n, .int .i64 C, v3, v4, .slice ca n cc]] w fun e w' => ∃ g cap, e = .returned (.tuple #[.slice (some ⟨g, 0, none⟩) n cap, .int .i64 0]) ∧ od.Own w.heap.size g n cap (asR 2 cl n) w w' := by
  obtain ⟨i0, hi, hz0, hz1, hz2⟩ := info_parts od.info3
  have bA : Below w.heap.size w (w.alloc (ob 2 n C v3 v4 (.slice ca n cc))) := bl_al (Below.refl _ _) _
  have HC := Lib.hid hC
  have q0 := Lib.hid (heap_alloc_new w (ob 2 n C v3 v4 (.slice ca n cc)))
  have HB6 := Lib.hid (fun (W : World) (h : Below (w.alloc (ob 2 n C v3 v4 (.slice ca n cc))).heap.size (w.alloc (ob 2 n C v3 v4 (.slice ca n cc))) W) => box6 ((h.block _ (lt_hp q0.out)).trans q0.out))
  have HR : Hid (∀ (W : World) (hW : Below (w.alloc (ob 2 n C v3 v4 (.slice ca n cc))).heap.size (w.alloc (ob 2 n C v3 v4 (.slice ca n cc))) W) (t : Nat), t < n → ∃ b o aj cj, ca = some ⟨b, o, none⟩ ∧ W.cell? ⟨b, o + t, none⟩ = some (.slice aj n cj) ∧ ∀ j, j < n → ∃ b' o', aj = some ⟨b', o', none⟩ ∧ W.cell? ⟨b', o' + j, none⟩ = some (.int .i64 (nth (cl[t]?.getD []) j))) := fun W hW t ht => by
    obtain ⟨b, o, aj, cj, e1, e2, e3, e4, _⟩ := ((h.keep bA).keep hW) t (by omega)
    have hr := hp t (by omega)
    rw [hr, hl] at e3
    refine ⟨b, o, aj, cj, e1, e3, fun j hj => ?_⟩
    obtain ⟨b', o', f1, _, f3⟩ := e4 j (by omega)
    exact ⟨b', o', f1, by unfold nth; exact f3⟩
  have HS : Hid (∀ t p, p = t → t < n → asR 2 cl (t + 1) = asR 2 cl t ++ [chR (cl[p]?.getD []) (asR 2 cl t) n]) := fun t p e ht => by
    subst e
    rw [as_succ (by omega), row_asg, (as_good 2 cl p (by omega)).len, hl]
  have HCh : Hid (∀ t p, p = t → t < n → ∃ c : Nat, chR (cl[p]?.getD []) (asR 2 cl t) n = (c : Int) ∧ c < n) := fun t p e ht => by
    subst e
    have a := as_new (K := 2) (cl := cl) (t := p) (by omega)
    rw [row_asg, (as_good 2 cl p (by omega)).len, hl] at a
    exact ⟨(chR (cl[p]?.getD []) (asR 2 cl p) n).toNat, by omega, by omega⟩
  have HPv : Hid (∀ t, t < n → ∃ p : Nat, p = t ∧ p < n) := fun t ht => ⟨t, rfl, ht⟩
  have HLn := Lib.hid (fun t (ht : t ≤ n) => (as_good 2 cl t (by omega)).len)
  have HZ := Lib.hid (as_zero 2 cl)
  have HG : Hid (∀ g cap W', od.Own (w.alloc (ob 2 n C v3 v4 (.slice ca n cc))).heap.size g n cap (asR 2 cl n) (w.alloc (ob 2 n C v3 v4 (.slice ca n cc))) W' → od.Own w.heap.size g n cap (asR 2 cl n) w W') := fun g cap W' h => h.down bA bA.size
  have C0 := Lib.hid (fun row X => ch_zero row X)
  have CY := Lib.hid (fun row X k h h1 => ch_yes (row := row) (X := X) (k := k) h h1)
  have CN := Lib.hid (fun row X k h => ch_no (row := row) (X := X) (k := k) h)
  have CI := Lib.hid (fun row X => ch_in row X)
  have HI0 : Hid (∀ (X W1 : World), Below X.heap.size X W1 → Rm X.heap.size W1.heap.size (W1.heap.size + 1) 0 [] X ((W1.alloc (.cells #[.bool false, .bool false, .bool false, .bool false, .bool false, .bool false, .bool false, .bool false, .bool false, .bool false, .bool false, .bool false, .bool false, .bool false, .bool false, .bool false, .bool false, .bool false, .bool false, .bool false, .bool false, .bool false, .bool false, .bool false] 49)).alloc (.cells #[] 3))) := fun X W1 hb => by
    refine ⟨⟨_, od.alloc2' _ _ _, rfl, fun v hv => ?_⟩, ?_, hb.size, (bl_al (bl_al hb _) _)⟩
    · have e : (#[.bool false, .bool false, .bool false, .bool false, .bool false, .bool false, .bool false, .bool false, .bool false, .bool false, .bool false, .bool false, .bool false, .bool false, .bool false, .bool false, .bool false, .bool false, .bool false, .bool false, .bool false, .bool false, .bool false, .bool false] : Array Value) = Array.replicate 24 (.bool false) := rfl
      rw [e, Array.getElem?_replicate, if_pos hv]; simp
    · have := od.own0 (W1.alloc (.cells #[.bool false, .bool false, .bool false, .bool false, .bool false, .bool false, .bool false, .bool false, .bool false, .bool false, .bool false, .bool false, .bool false, .bool false, .bool false, .bool false, .bool false, .bool false, .bool false, .bool false, .bool false, .bool false, .bool false, .bool false] 49))
      simpa using this
  unfold ob at *
  clear h bA hp hl hC
  go_enter Try.func11, Try.ntmps11
  go_upto_region 1 with fail
  generalize w.alloc (.cells #[.int .i64 2, .int .i64 n, .int .i64 C, v3, v4, .slice ca n cc] 25) = X at *
  obtain ⟨e0, e1, e2, e3, e4, e5⟩ := HB6.out X (Below.refl _ _)
  go_wp2_with fail
  refine HC.out.mono ?_; rintro e w1 ⟨rfl, hb1⟩
  have HR0 := Lib.hid (HI0.out X w1 hb1)
  have HXs := lt_hp q0.out
  have hs1 : w.heap.size < w1.heap.size := Nat.lt_of_lt_of_le HXs hb1.size
  clear e0 e1 e2 e3 e4 e5 HC HI0
  obtain ⟨e0, e1, e2, e3, e4, e5⟩ := HB6.out w1 hb1
  go_upto_region 8 with fail
  clear e0 e1 e2 e3 e4 e5 hb1
  obtain ⟨e0, e1, e2, e3, e4, e5⟩ := HB6.out _ HR0.out.bel
  have hne0 : w.heap.size ≠ w1.heap.size := by omega
  clear hs1
  generalize w1.heap.size = gu at *
  generalize (w1.alloc (.cells #[.bool false, .bool false, .bool false, .bool false, .bool false, .bool false, .bool false, .bool false, .bool false, .bool false, .bool false, .bool false, .bool false, .bool false, .bool false, .bool false, .bool false, .bool false, .bool false, .bool false, .bool false, .bool false, .bool false, .bool false] 49)).alloc (.cells #[] 3) = W0 at *
  have HI : Hid (Rm X.heap.size gu (gu + 1) 0 (asR 2 cl 0) X W0) := by show Rm _ _ _ _ _ _ _; rw [HZ.out]; exact HR0.out
  clear HR0
  go_wp2
  go_loopw [6] (fun v6 wr => ∃ (t gx cap : Nat), t ≤ n ∧ v6 = .slice (some ⟨gx, 0, none⟩) t cap ∧ Hid (Rm X.heap.size gu gx cap (asR 2 cl t) X wr)) (fun v6 _ => n - slen v6)
  case atStart => exact ⟨0, gu + 1, 0, by omega, rfl, HI⟩
  case round =>
    clear HI e0 e1 e2 e3 e4 e5
    obtain ⟨t, gx, cap, ht, rfl, HP⟩ := hrel
    obtain ⟨e0, e1, e2, e3, e4, e5⟩ := HB6.out wr HP.out.bel
    by_cases hlt : t < n
    · have q1 : (t : Int) < (n : Int) := by omega
      have q0 : (0 : Int) ≤ (t : Int) := by omega
      obtain ⟨p, hp, hpn⟩ := HPv.out t hlt
      obtain ⟨b, o, aj, cj, rfl, d1, HRj⟩ := HR.out wr HP.out.bel p hpn
      obtain ⟨c, hc, hcn⟩ := HCh.out t p hp hlt
      have HSt := Lib.hid (HS.out t p hp hlt)
      have hp' := hp.symm
      subst hp'
      have HU := Lib.hid (fun j (hj : j < n) => HP.out.cell j (by omega))
      have HRk := Lib.hid HRj
      have HLt := Lib.hid (HLn.out t ht)
      clear HRj
      generalize cl[t]?.getD [] = row at *
      generalize hXX : asR 2 cl t = XX at *
      have HXX := Lib.hid hXX
      clear hXX
      have HC0 := Lib.hid (C0.out row XX)
      have HCY := Lib.hid (CY.out row XX)
      have HCN := Lib.hid (CN.out row XX)
      have HCI := Lib.hid (CI.out row XX)
      go_wp2
      go_loopw [8, 9] (fun v8 i wq => ∃ k : Nat, k ≤ n ∧ i = .int .i64 k ∧ v8 = .int .i64 (chR row XX k) ∧ ∃ m, wq = wr.drewN m) (fun _ i _ => n - (intOf i).toNat)
      case atStart => exact ⟨0, by omega, rfl, by rw [HC0.out], 0, rfl⟩
      case round =>
        obtain ⟨k, hk, rfl, rfl, m, rfl⟩ := hrel
        by_cases hkn : k < n
        · have r1 : (k : Int) < (n : Int) := by omega
          have r0 : (0 : Int) ≤ (k : Int) := by omega
          have r24 : (k : Int) < 24 := by omega
          obtain ⟨b1, o1, rfl, x1⟩ := HRk.out k hkn
          have x2 := HU.out k hkn
          have IN := Lib.hid (HCI.out k)
          by_cases u : (k : Int) ∈ XX
          · have E : Hid (chR row XX (k + 1) = chR row XX k) := HCN.out k (fun h => h.1 u)
            rw [decide_eq_true u] at x2
            clear u
            generalize chR row XX k = z at *
            generalize nth row k = y at *
            go_wp2
            go_quiet (fail)
            go_wp2
            go_roundw
            case rel => exact ⟨k + 1, by omega, by go_num, by rw [E.out], _, rfl⟩
            case measure => simp [intOf]; omega
          · rw [decide_eq_false u] at x2
            by_cases z0 : chR row XX k < 0
            · have E : Hid (chR row XX (k + 1) = (k : Int)) := HCY.out k u (.inl z0)
              clear u
              have cb2 := decide_eq_true z0
              generalize chR row XX k = z at *
              generalize nth row k = y at *
              go_wp2
              go_quiet (fail)
              go_wp2
              go_roundw
              case rel => exact ⟨k + 1, by omega, by go_num, by rw [E.out], _, rfl⟩
              case measure => simp [intOf]; omega
            · obtain ⟨i, hm⟩ : ∃ i : Nat, chR row XX k = (i : Int) := ⟨(chR row XX k).toNat, by omega⟩
              have hmk : i < k := by have := IN.out.2.1; omega
              obtain ⟨b', o', eb, x3⟩ := HRk.out i (by omega)
              injection eb with eb; injection eb with eb1 eb2; subst eb1; subst eb2
              have m1 : (i : Int) < (n : Int) := by omega
              have m0 : (0 : Int) ≤ (i : Int) := by omega
              have m2 : ¬ (i : Int) < 0 := by omega
              by_cases cc' : nth row k < nth row i
              · have E : Hid (chR row XX (k + 1) = (k : Int)) := HCY.out k u (.inr (by rw [hm]; exact cc'))
                rw [hm]
                have cb2 := decide_eq_false m2
                have cb3 := decide_eq_true cc'
                clear u z0 hm
                generalize nth row k = y at *
                generalize nth row i = x at *
                go_wp2
                go_quiet (fail)
                go_wp2
                go_roundw
                case rel => exact ⟨k + 1, by omega, by go_num, by rw [E.out], _, rfl⟩
                case measure => simp [intOf]; omega
              · have E : Hid (chR row XX (k + 1) = (i : Int)) := by
                  have := HCN.out k (fun h => h.2.elim z0 (fun h => cc' (by rw [hm] at h; exact h)))
                  rw [hm] at this; exact this
                rw [hm]
                have cb2 := decide_eq_false m2
                have cb3 := decide_eq_false cc'
                clear u z0 hm
                generalize nth row k = y at *
                generalize nth row i = x at *
                go_wp2
                go_quiet (fail)
                go_wp2
                go_roundw
                case rel => exact ⟨k + 1, by omega, by go_num, by rw [E.out], _, rfl⟩
                case measure => simp [intOf]; omega
        · obtain rfl : n = k := by omega
          have HPy := Lib.hid (HP.out.keep (od.bl_dn (Below.refl wr.heap.size wr) m))
          rw [hc] at HSt ⊢
          clear HP HU HRk HCI HCN HCY HC0 d1 e0 e1 e2 e3 e4 e5 hc
          obtain ⟨e0, e1, e2, e3, e4, e5⟩ := HB6.out (wr.drewN m) HPy.out.bel
          generalize wr.drewN m = wy at *
          have c24 : c < 24 := by omega
          have c1 : (c : Int) < (n : Int) := by omega
          have c0 : (0 : Int) ≤ (c : Int) := by omega
          have cq : (c : Int) < 24 := by omega
          have k2 := HPy.out.cell c c24
          have f2 := HPy.out.froz c
          have hO := Lib.hid (show (wy.setCell ⟨gu, c, none⟩ (.bool true)).ownsRow (gu + 1) 3 1 (.slice (some ⟨gx, 0, none⟩) t cap) t (XX.map (Value.int .i64)) from by have := HPy.out.osto c; rw [HLt.out] at this; exact this)
          have hsz := Lib.hid (HPy.out.size)
          have HNx := Lib.hid (fun (w3 : World) (gx2 cap2 : Nat) (oo : Obj) (h1 : w3.ownsRow (gu + 1) 3 1 (.slice (some ⟨gx2, 0, none⟩) (t + 1) cap2) (t + 1) (XX.map (Value.int .i64) ++ [.int .i64 c])) (h2 : ((wy.setCell ⟨gu, c, none⟩ (.bool true)).alloc oo).grownBy w3 (Value.slice (some ⟨gx, 0, none⟩) t cap).ownBlock) => HPy.out.next (w3 := w3) (gx2 := gx2) (cap2 := cap2) c c24 oo (by rw [HLt.out]; exact h1) (by rw [HLt.out]; exact h2))
          have hsz2 := (((Below.refl (gu + 1) wy).mono (Nat.le_succ gu)).setCell (p := ⟨gu, c, none⟩) (Nat.le_refl _) (.bool true)).size
          have hszo := hsz.out
          have hOa := Lib.hid (hO.out.alloc (.cells #[.int .i64 c] 3))
          have hcn0 := cell_one_new (wy.setCell ⟨gu, c, none⟩ (.bool true)) (.int .i64 c) 3
          have hse : (wy.setCell ⟨gu, c, none⟩ (.bool true)).heap.size = wy.heap.size := by simp [World.setCell]
          rw [hse] at hcn0
          have hcn1 := Lib.hid hcn0
          clear hcn0 hse
          have hbs := Lib.hid (show gu + 1 ≤ ((wy.setCell ⟨gu, c, none⟩ (.bool true)).alloc (.cells #[.int .i64 c] 3)).heap.size from by have := ((Below.refl (gu + 1) (wy.setCell ⟨gu, c, none⟩ (.bool true))).alloc (by omega) (.cells #[.int .i64 c] 3)).size; omega)
          have hml : t + 1 ≤ maxLen := by unfold maxLen; omega
          have hby8 : (t + 1) * 8 ≤ 140737488355328 := by omega
          clear HPy
          generalize decide ((c : Int) ∈ XX) = bb at *
          go_wp2_with (at_builtin; refine wpList_append_own _ rfl _ _ 22 rfl (gu + 1) 3 i0 (.int .i64 0) 1 8 Try.underlying22 hi hz0 hz1 hz2 rfl (by decide) _ _ _ rfl hOa.out ⟨wy.heap.size, 0, none⟩ 1 1 [.int .i64 c] rfl rfl hcn1.out (by simp [Value.oneCell']) hml hby8 hbs.out ?_)
          intro v' w3 hown hgrow hne
          obtain ⟨go2, cap2, rfl⟩ := od.own_form hown (by simpa using hne)
          have HN3 : Hid (Rm X.heap.size gu go2 cap2 (asR 2 cl (t + 1)) X w3) := by
            show Rm _ _ _ _ _ _ _
            rw [HSt.out]; exact HNx.out w3 go2 cap2 _ hown hgrow
          clear hown hgrow hne HNx hO hsz2 hszo
          go_wp2
          go_roundw
          case rel => exact ⟨t + 1, go2, cap2,  by omega, rfl, HN3⟩
          case measure => simp [slen]; omega
    · obtain rfl : n = t := by omega
      have HF : Hid (od.Own w.heap.size gx n cap (asR 2 cl n) w wr) := by
        have l := HLn.out n (Nat.le_refl _)
        have o := HP.out.own
        rw [l] at o
        exact HG.out gx cap wr ⟨l, Nat.le_trans HP.out.low (by have := HP.out.gole; omega), od.own_mono (by have := HP.out.low; omega) o, HP.out.bel⟩
      clear HP
      go_wp2
      first
        | exact ⟨gx, cap, rfl, HF.out⟩
        | (go_at_K; go_wp2; exact ⟨gx, cap, rfl, HF.out⟩)
        | (go_ret2; exact ⟨gx, cap, rfl, HF.out⟩)
end Go.Proofs.Ytaobaiifbmhegaa

/-
  The reference: First of a tour.
-/
namespace Go.Proofs.Ytaobaiifbmhegaa
open Go.RowKit
set_option linter.unusedVariables false
set_option maxRecDepth 100000 in
set_option maxHeartbeats 8000000 in
theorem rrows_tour (C : Int) (v3 v4 : Value) (cl : List (List Int)) (n : Nat) (hl : cl.length = n) (hp : rowsP cl) (hn : 1 ≤ n) (h24 : n ≤ 24) (ca : Option Addr) (cc : Nat) (w : World) (h : Rws w ca cl)
    (hC : Calls Try.prog 35 #[.agg #[.int .i64 3, .int .i64 n, .int .i64 C, v3, v4, .slice ca n cc]] (w.alloc (ob 3 n C v3 v4 (.slice ca n cc))) fun e w' => e = .returned (.int .i64 0) ∧ Below (w.alloc (ob 3 n C v3 v4 (.slice ca n cc))).heap.size (w.alloc (ob 3 n C v3 v4 (.slice ca n cc))) w') :
    Calls Try.prog 11 #[.agg #[.int .i64 3, .int .i64 n, .int .i64 C, v3, v4, .slice ca n cc]] w fun e w' => ∃ g cap, e = .returned (.tuple #[.slice (some ⟨g, 0, none⟩) n cap, .int .i64 0]) ∧ od.Own w.heap.size g n cap (asR 3 cl n) w w' := by
  obtain ⟨i0, hi, hz0, hz1, hz2⟩ := info_parts od.info3
  have bA : Below w.heap.size w (w.alloc (ob 3 n C v3 v4 (.slice ca n cc))) := bl_al (Below.refl _ _) _
  have HC := Lib.hid hC
  have q0 := Lib.hid (heap_alloc_new w (ob 3 n C v3 v4 (.slice ca n cc)))
  have HB6 := Lib.hid (fun (W : World) (h : Below (w.alloc (ob 3 n C v3 v4 (.slice ca n cc))).heap.size (w.alloc (ob 3 n C v3 v4 (.slice ca n cc))) W) => box6 ((h.block _ (lt_hp q0.out)).trans q0.out))
  have HR : Hid (∀ (W : World) (hW : Below (w.alloc (ob 3 n C v3 v4 (.slice ca n cc))).heap.size (w.alloc (ob 3 n C v3 v4 (.slice ca n cc))) W) (t : Nat), t < n → ∃ b o aj cj, ca = some ⟨b, o, none⟩ ∧ W.cell? ⟨b, o + t, none⟩ = some (.slice aj n cj) ∧ ∀ j, j < n → ∃ b' o', aj = some ⟨b', o', none⟩ ∧ W.cell? ⟨b', o' + j, none⟩ = some (.int .i64 (nth (cl[t]?.getD []) j))) := fun W hW t ht => by
    obtain ⟨b, o, aj, cj, e1, e2, e3, e4, _⟩ := ((h.keep bA).keep hW) t (by omega)
    have hr := hp t (by omega)
    rw [hr, hl] at e3
    refine ⟨b, o, aj, cj, e1, e3, fun j hj => ?_⟩
    obtain ⟨b', o', f1, _, f3⟩ := e4 j (by omega)
    exact ⟨b', o', f1, by unfold nth; exact f3⟩
  have HPv : Hid (∀ t, 1 ≤ t → t < n → ∃ p : Nat, nth (asR 3 cl t) (t - 1) = (p : Int) ∧ p < n) := fun t h1 ht => by
    have G := as_good 3 cl t (by omega)
    have hm : nth (asR 3 cl t) (t - 1) ∈ asR 3 cl t := by
      have : t - 1 < (asR 3 cl t).length := by rw [G.len]; omega
      rw [nth_at _ _ this]; exact List.getElem_mem _
    have r := G.rng _ hm
    exact ⟨(nth (asR 3 cl t) (t - 1)).toNat, by omega, by omega⟩
  have HS : Hid (∀ (t p : Nat), 1 ≤ t → t < n → nth (asR 3 cl t) (t - 1) = (p : Int) → asR 3 cl (t + 1) = asR 3 cl t ++ [chR (cl[p]?.getD []) (asR 3 cl t) n]) := fun t p h1 ht hp => by
    rw [as_succ (by omega), row_tour, (as_good 3 cl t (by omega)).len, hl, hp]; rfl
  have HCh : Hid (∀ (t p : Nat), 1 ≤ t → t < n → nth (asR 3 cl t) (t - 1) = (p : Int) → ∃ c : Nat, chR (cl[p]?.getD []) (asR 3 cl t) n = (c : Int) ∧ c < n) := fun t p h1 ht hp => by
    have a := as_new (K := 3) (cl := cl) (t := t) (by omega)
    rw [row_tour, (as_good 3 cl t (by omega)).len, hl, hp] at a
    have e : ((p : Int)).toNat = p := by omega
    rw [e] at a
    exact ⟨(chR (cl[p]?.getD []) (asR 3 cl t) n).toNat, by omega, by omega⟩
  have HLn := Lib.hid (fun t (ht : t ≤ n) => (as_good 3 cl t (by omega)).len)
  have HZ := Lib.hid (as_one cl)
  have HG : Hid (∀ g cap W', od.Own (w.alloc (ob 3 n C v3 v4 (.slice ca n cc))).heap.size g n cap (asR 3 cl n) (w.alloc (ob 3 n C v3 v4 (.slice ca n cc))) W' → od.Own w.heap.size g n cap (asR 3 cl n) w W') := fun g cap W' h => h.down bA bA.size
  have C0 := Lib.hid (fun row X => ch_zero row X)
  have CY := Lib.hid (fun row X k h h1 => ch_yes (row := row) (X := X) (k := k) h h1)
  have CN := Lib.hid (fun row X k h => ch_no (row := row) (X := X) (k := k) h)
  have CI := Lib.hid (fun row X => ch_in row X)
  have HI0 : Hid (∀ (X W1 : World), Below X.heap.size X W1 → Rm X.heap.size W1.heap.size (W1.heap.size + 1) 0 [] X ((W1.alloc (.cells #[.bool false, .bool false, .bool false, .bool false, .bool false, .bool false, .bool false, .bool false, .bool false, .bool false, .bool false, .bool false, .bool false, .bool false, .bool false, .bool false, .bool false, .bool false, .bool false, .bool false, .bool false, .bool false, .bool false, .bool false] 49)).alloc (.cells #[] 3))) := fun X W1 hb => by
    refine ⟨⟨_, od.alloc2' _ _ _, rfl, fun v hv => ?_⟩, ?_, hb.size, (bl_al (bl_al hb _) _)⟩
    · have e : (#[.bool false, .bool false, .bool false, .bool false, .bool false, .bool false, .bool false, .bool false, .bool false, .bool false, .bool false, .bool false, .bool false, .bool false, .bool false, .bool false, .bool false, .bool false, .bool false, .bool false, .bool false, .bool false, .bool false, .bool false] : Array Value) = Array.replicate 24 (.bool false) := rfl
      rw [e, Array.getElem?_replicate, if_pos hv]; simp
    · have := od.own0 (W1.alloc (.cells #[.bool false, .bool false, .bool false, .bool false, .bool false, .bool false, .bool false, .bool false, .bool false, .bool false, .bool false, .bool false, .bool false, .bool false, .bool false, .bool false, .bool false, .bool false, .bool false, .bool false, .bool false, .bool false, .bool false, .bool false] 49))
      simpa using this
  unfold ob at *
  clear h bA hp hl hC
  go_enter Try.func11, Try.ntmps11
  go_upto_region 1 with fail
  generalize w.alloc (.cells #[.int .i64 3, .int .i64 n, .int .i64 C, v3, v4, .slice ca n cc] 25) = X at *
  obtain ⟨e0, e1, e2, e3, e4, e5⟩ := HB6.out X (Below.refl _ _)
  go_wp2_with fail
  refine HC.out.mono ?_; rintro e w1 ⟨rfl, hb1⟩
  have HR0 := Lib.hid (HI0.out X w1 hb1)
  have HXs := lt_hp q0.out
  have hs1 : w.heap.size < w1.heap.size := Nat.lt_of_lt_of_le HXs hb1.size
  clear e0 e1 e2 e3 e4 e5 HC HI0
  obtain ⟨e0, e1, e2, e3, e4, e5⟩ := HB6.out w1 hb1
  go_upto_region 8 with fail
  clear e0 e1 e2 e3 e4 e5 hb1
  obtain ⟨e0, e1, e2, e3, e4, e5⟩ := HB6.out _ HR0.out.bel
  have hne0 : w.heap.size ≠ w1.heap.size := by omega
  clear hs1
  generalize w1.heap.size = gu at *
  generalize (w1.alloc (.cells #[.bool false, .bool false, .bool false, .bool false, .bool false, .bool false, .bool false, .bool false, .bool false, .bool false, .bool false, .bool false, .bool false, .bool false, .bool false, .bool false, .bool false, .bool false, .bool false, .bool false, .bool false, .bool false, .bool false, .bool false] 49)).alloc (.cells #[] 3) = W0 at *
  have hO1 := HR0.out.own
  have hsz1 := Lib.hid (HR0.out.size)
  have hcc := Lib.hid (cell_one_new W0 (.int .i64 0) 3)
  have hOa := Lib.hid (show (W0.alloc (.cells #[.int .i64 0] 3)).ownsRow (gu + 1) 3 1 (.slice (some ⟨gu + 1, 0, none⟩) 0 0) 0 [] from hO1.alloc (.cells #[.int .i64 0] 3))
  have hbs := Lib.hid (show gu + 1 ≤ (W0.alloc (.cells #[.int .i64 0] 3)).heap.size from by have := ((Below.refl (gu + 1) W0).alloc hsz1.out (.cells #[.int .i64 0] 3)).size; have := hsz1.out; omega)
  have HF1 := Lib.hid (fun (w3 : World) (gx2 cap2 : Nat) (o : Obj) h1 h2 => rm_first (w3 := w3) HR0.out (gx2 := gx2) (cap2 := cap2) o h1 h2)
  clear hO1
  go_wp2_with (at_builtin; refine wpList_append_own _ rfl _ _ 22 rfl (gu + 1) 3 i0 (.int .i64 0) 1 8 Try.underlying22 hi hz0 hz1 hz2 rfl (by decide) _ _ _ rfl hOa.out ⟨W0.heap.size, 0, none⟩ 1 1 [.int .i64 0] rfl rfl hcc.out (by simp [Value.oneCell']) (by unfold maxLen; omega) (by omega) hbs.out ?_)
  intro v' w3 hown hgrow hne
  obtain ⟨gx1, cap1, rfl⟩ := od.own_form hown (by simpa using hne)
  have HQ1 := Lib.hid (HF1.out w3 gx1 cap1 _ (by simpa using hown) hgrow)
  have fz1 := HQ1.out.2.1
  have cz1 := HQ1.out.2.2
  clear hown hgrow hne HF1 hOa hcc hbs hsz1 e0 e1 e2 e3 e4 e5
  have HI : Hid (Rm X.heap.size gu gx1 cap1 (asR 3 cl 1) X (w3.setCell ⟨gu, 0, none⟩ (.bool true))) := by show Rm _ _ _ _ _ _ _; rw [HZ.out]; exact HQ1.out.1
  clear HQ1 HR0
  go_wp2_with fail
  generalize w3.setCell ⟨gu, 0, none⟩ (.bool true) = w4 at *
  obtain ⟨e0, e1, e2, e3, e4, e5⟩ := HB6.out w4 HI.out.bel
  go_loopw [6] (fun v6 wr => ∃ (t gx cap : Nat), 1 ≤ t ∧ t ≤ n ∧ v6 = .slice (some ⟨gx, 0, none⟩) t cap ∧ Hid (Rm X.heap.size gu gx cap (asR 3 cl t) X wr)) (fun v6 _ => n - slen v6)
  case atStart => exact ⟨1, gx1, cap1, by omega, hn, rfl, HI⟩
  case round =>
    clear HI e0 e1 e2 e3 e4 e5
    obtain ⟨t, gx, cap, h1t, ht, rfl, HP⟩ := hrel
    obtain ⟨e0, e1, e2, e3, e4, e5⟩ := HB6.out wr HP.out.bel
    by_cases hlt : t < n
    · have q1 : (t : Int) < (n : Int) := by omega
      have q0 : (0 : Int) ≤ (t : Int) := by omega
      obtain ⟨p, hp, hpn⟩ := HPv.out t h1t hlt
      obtain ⟨b, o, aj, cj, rfl, d1, HRj⟩ := HR.out wr HP.out.bel p hpn
      obtain ⟨bt, ot, at', ct, et, dt, _⟩ := HR.out wr HP.out.bel t hlt
      injection et with et; injection et with et1 et2; subst et1; subst et2
      obtain ⟨c, hc, hcn⟩ := HCh.out t p h1t hlt hp
      have HSt := Lib.hid (HS.out t p h1t hlt hp)
      obtain ⟨s, hs⟩ : ∃ s, s = t - 1 := ⟨_, rfl⟩
      have hs1 : (t : Int) - 1 = (s : Int) := by omega
      have hw1 : IntKind.i64.wrap ((t : Int) - 1) = (s : Int) := by rw [IntKind.wrap_i64]; omega
      have hw2 : IntKind.i64.wrap (s : Int) = (s : Int) := by rw [IntKind.wrap_i64]; omega
      have s0 : (0 : Int) ≤ (s : Int) := by omega
      have s1 : (s : Int) < (t : Int) := by omega
      have p1 : (p : Int) < (n : Int) := by omega
      have p0 : (0 : Int) ≤ (p : Int) := by omega
      have k3 := HP.out.ocell s (by rw [HLn.out t ht]; omega)
      rw [hs, hp, ← hs] at k3
      clear hs hp
      have HU := Lib.hid (fun j (hj : j < n) => HP.out.cell j (by omega))
      have HRk := Lib.hid HRj
      have HLt := Lib.hid (HLn.out t ht)
      clear HRj
      generalize cl[p]?.getD [] = row at *
      generalize hXX : asR 3 cl t = XX at *
      have HXX := Lib.hid hXX
      clear hXX
      have HC0 := Lib.hid (C0.out row XX)
      have HCY := Lib.hid (CY.out row XX)
      have HCN := Lib.hid (CN.out row XX)
      have HCI := Lib.hid (CI.out row XX)
      go_wp2
      go_quiet (fail)
      go_wp2
      go_loopw [8, 9] (fun v8 i wq => ∃ k : Nat, k ≤ n ∧ i = .int .i64 k ∧ v8 = .int .i64 (chR row XX k) ∧ ∃ m, wq = wr.drewN m) (fun _ i _ => n - (intOf i).toNat)
      case atStart => exact ⟨0, by omega, rfl, by rw [HC0.out], _, rfl⟩
      case round =>
        obtain ⟨k, hk, rfl, rfl, m, rfl⟩ := hrel
        by_cases hkn : k < n
        · have r1 : (k : Int) < (n : Int) := by omega
          have r0 : (0 : Int) ≤ (k : Int) := by omega
          have r24 : (k : Int) < 24 := by omega
          obtain ⟨b1, o1, rfl, x1⟩ := HRk.out k hkn
          have x2 := HU.out k hkn
          have IN := Lib.hid (HCI.out k)
          by_cases u : (k : Int) ∈ XX
          · have E : Hid (chR row XX (k + 1) = chR row XX k) := HCN.out k (fun h => h.1 u)
            rw [decide_eq_true u] at x2
            clear u
            generalize chR row XX k = z at *
            generalize nth row k = y at *
            go_wp2
            go_quiet (fail)
            go_wp2
            go_roundw
            case rel => exact ⟨k + 1, by omega, by go_num, by rw [E.out], _, rfl⟩
            case measure => simp [intOf]; omega
          · rw [decide_eq_false u] at x2
            by_cases z0 : chR row XX k < 0
            · have E : Hid (chR row XX (k + 1) = (k : Int)) := HCY.out k u (.inl z0)
              clear u
              have cb2 := decide_eq_true z0
              generalize chR row XX k = z at *
              generalize nth row k = y at *
              go_wp2
              go_quiet (fail)
              go_wp2
              go_roundw
              case rel => exact ⟨k + 1, by omega, by go_num, by rw [E.out], _, rfl⟩
              case measure => simp [intOf]; omega
            · obtain ⟨i, hm⟩ : ∃ i : Nat, chR row XX k = (i : Int) := ⟨(chR row XX k).toNat, by omega⟩
              have hmk : i < k := by have := IN.out.2.1; omega
              obtain ⟨b', o', eb, x3⟩ := HRk.out i (by omega)
              injection eb with eb; injection eb with eb1 eb2; subst eb1; subst eb2
              have m1 : (i : Int) < (n : Int) := by omega
              have m0 : (0 : Int) ≤ (i : Int) := by omega
              have m2 : ¬ (i : Int) < 0 := by omega
              by_cases cc' : nth row k < nth row i
              · have E : Hid (chR row XX (k + 1) = (k : Int)) := HCY.out k u (.inr (by rw [hm]; exact cc'))
                rw [hm]
                have cb2 := decide_eq_false m2
                have cb3 := decide_eq_true cc'
                clear u z0 hm
                generalize nth row k = y at *
                generalize nth row i = x at *
                go_wp2
                go_quiet (fail)
                go_wp2
                go_roundw
                case rel => exact ⟨k + 1, by omega, by go_num, by rw [E.out], _, rfl⟩
                case measure => simp [intOf]; omega
              · have E : Hid (chR row XX (k + 1) = (i : Int)) := by
                  have := HCN.out k (fun h => h.2.elim z0 (fun h => cc' (by rw [hm] at h; exact h)))
                  rw [hm] at this; exact this
                rw [hm]
                have cb2 := decide_eq_false m2
                have cb3 := decide_eq_false cc'
                clear u z0 hm
                generalize nth row k = y at *
                generalize nth row i = x at *
                go_wp2
                go_quiet (fail)
                go_wp2
                go_roundw
                case rel => exact ⟨k + 1, by omega, by go_num, by rw [E.out], _, rfl⟩
                case measure => simp [intOf]; omega
        · obtain rfl : n = k := by omega
          have HPy := Lib.hid (HP.out.keep (od.bl_dn (Below.refl wr.heap.size wr) m))
          rw [hc] at HSt ⊢
          clear HP HU HRk HCI HCN HCY HC0 d1 e0 e1 e2 e3 e4 e5 hc
          obtain ⟨e0, e1, e2, e3, e4, e5⟩ := HB6.out (wr.drewN m) HPy.out.bel
          generalize wr.drewN m = wy at *
          have c24 : c < 24 := by omega
          have c1 : (c : Int) < (n : Int) := by omega
          have c0 : (0 : Int) ≤ (c : Int) := by omega
          have cq : (c : Int) < 24 := by omega
          have k2 := HPy.out.cell c c24
          have f2 := HPy.out.froz c
          have hO := Lib.hid (show (wy.setCell ⟨gu, c, none⟩ (.bool true)).ownsRow (gu + 1) 3 1 (.slice (some ⟨gx, 0, none⟩) t cap) t (XX.map (Value.int .i64)) from by have := HPy.out.osto c; rw [HLt.out] at this; exact this)
          have hsz := Lib.hid (HPy.out.size)
          have HNx := Lib.hid (fun (w3 : World) (gx2 cap2 : Nat) (oo : Obj) (h1 : w3.ownsRow (gu + 1) 3 1 (.slice (some ⟨gx2, 0, none⟩) (t + 1) cap2) (t + 1) (XX.map (Value.int .i64) ++ [.int .i64 c])) (h2 : ((wy.setCell ⟨gu, c, none⟩ (.bool true)).alloc oo).grownBy w3 (Value.slice (some ⟨gx, 0, none⟩) t cap).ownBlock) => HPy.out.next (w3 := w3) (gx2 := gx2) (cap2 := cap2) c c24 oo (by rw [HLt.out]; exact h1) (by rw [HLt.out]; exact h2))
          have hsz2 := (((Below.refl (gu + 1) wy).mono (Nat.le_succ gu)).setCell (p := ⟨gu, c, none⟩) (Nat.le_refl _) (.bool true)).size
          have hszo := hsz.out
          have hOa := Lib.hid (hO.out.alloc (.cells #[.int .i64 c] 3))
          have hcn0 := cell_one_new (wy.setCell ⟨gu, c, none⟩ (.bool true)) (.int .i64 c) 3
          have hse : (wy.setCell ⟨gu, c, none⟩ (.bool true)).heap.size = wy.heap.size := by simp [World.setCell]
          rw [hse] at hcn0
          have hcn1 := Lib.hid hcn0
          clear hcn0 hse
          have hbs := Lib.hid (show gu + 1 ≤ ((wy.setCell ⟨gu, c, none⟩ (.bool true)).alloc (.cells #[.int .i64 c] 3)).heap.size from by have := ((Below.refl (gu + 1) (wy.setCell ⟨gu, c, none⟩ (.bool true))).alloc (by omega) (.cells #[.int .i64 c] 3)).size; omega)
          have hml : t + 1 ≤ maxLen := by unfold maxLen; omega
          have hby8 : (t + 1) * 8 ≤ 140737488355328 := by omega
          clear HPy
          generalize decide ((c : Int) ∈ XX) = bb at *
          go_wp2_with (at_builtin; refine wpList_append_own _ rfl _ _ 22 rfl (gu + 1) 3 i0 (.int .i64 0) 1 8 Try.underlying22 hi hz0 hz1 hz2 rfl (by decide) _ _ _ rfl hOa.out ⟨wy.heap.size, 0, none⟩ 1 1 [.int .i64 c] rfl rfl hcn1.out (by simp [Value.oneCell']) hml hby8 hbs.out ?_)
          intro v' w3 hown hgrow hne
          obtain ⟨go2, cap2, rfl⟩ := od.own_form hown (by simpa using hne)
          have HN3 : Hid (Rm X.heap.size gu go2 cap2 (asR 3 cl (t + 1)) X w3) := by
            show Rm _ _ _ _ _ _ _
            rw [HSt.out]; exact HNx.out w3 go2 cap2 _ hown hgrow
          clear hown hgrow hne HNx hO hsz2 hszo
          go_wp2
          go_roundw
          case rel => exact ⟨t + 1, go2, cap2, by omega, by omega, rfl, HN3⟩
          case measure => simp [slen]; omega
    · obtain rfl : n = t := by omega
      have HF : Hid (od.Own w.heap.size gx n cap (asR 3 cl n) w wr) := by
        have l := HLn.out n (Nat.le_refl _)
        have o := HP.out.own
        rw [l] at o
        exact HG.out gx cap wr ⟨l, Nat.le_trans HP.out.low (by have := HP.out.gole; omega), od.own_mono (by have := HP.out.low; omega) o, HP.out.bel⟩
      clear HP
      go_wp2
      first
        | exact ⟨gx, cap, rfl, HF.out⟩
        | (go_at_K; go_wp2; exact ⟨gx, cap, rfl, HF.out⟩)
        | (go_ret2; exact ⟨gx, cap, rfl, HF.out⟩)
end Go.Proofs.Ytaobaiifbmhegaa

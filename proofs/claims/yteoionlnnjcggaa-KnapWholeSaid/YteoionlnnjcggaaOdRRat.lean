/-
  What the reference's ByRatio answers.
-/
import Derived.Test.YteoionlnnjcggaaOdBet
namespace Go.Proofs.Yteoionlnnjcggaa.od
open Go.RowKit
set_option linter.unusedVariables false
theorem ratZ_of (v w : List Int) (W : World) {w0 w' : World} {g : Nat} {Z : List Int} {e : Ending} (he : e = .returned (.tuple #[.slice (some ⟨g, 0, none⟩) v.length v.length, .int .i64 0])) (ho : Own W.heap.size g v.length v.length Z w0 w') (hw : W.heap.size = w0.heap.size)
    (hz : ∀ a, a < v.length → nth Z (rko (ltR v w) v.length a) = (a : Int)) : ∃ (g : Nat) (Z : List Int), e = .returned (.tuple #[.slice (some ⟨g, 0, none⟩) v.length v.length, .int .i64 0]) ∧ IsRk (ltR v w) v.length Z ∧ Ints w' (some ⟨g, 0, none⟩) Z ∧ Below w0.heap.size w0 w' :=
  ⟨g, Z, he, ⟨ho.1, hz⟩, ho.ints, by rw [← hw]; exact ho.2.2.2⟩
set_option maxRecDepth 100000 in
set_option maxHeartbeats 8000000 in
theorem rrat_ok (v w : List Int) (ho : ratOk v w) (bv : I64s v) (bw : I64s w) (va wa : Option Addr) (vc wc : Nat) (W : World) (h1 : Ints W va v) (h2 : Ints W wa w) :
    Calls Try.prog 45 #[.slice va v.length vc, .slice wa w.length wc] W fun e w' => ∃ (g : Nat) (Z : List Int), e = .returned (.tuple #[.slice (some ⟨g, 0, none⟩) v.length v.length, .int .i64 0]) ∧ IsRk (ltR v w) v.length Z ∧ Ints w' (some ⟨g, 0, none⟩) Z ∧ Below W.heap.size W w' := by
  obtain ⟨i0, hi, hz0, hz1, hz2⟩ := info_parts info3
  obtain ⟨e1, e2, nv, nw⟩ := ho
  have hw0 : ∀ j, j < v.length → 0 ≤ nth w j := fun j hj => nw j (by omega)
  have HV : Hid (∀ X, Below W.heap.size W X → ∀ j, j < v.length → ∃ b o, va = some ⟨b, o, none⟩ ∧ X.cell? ⟨b, o + j, none⟩ = some (.int .i64 (nth v j)) ∧ 0 ≤ nth v j) := fun X hb j hj => by
    obtain ⟨b, o, e, _, c⟩ := h1.keep hb j hj
    exact ⟨b, o, e, c, nv j hj⟩
  have HW : Hid (∀ X, Below W.heap.size W X → ∀ j, j < v.length → ∃ b o, wa = some ⟨b, o, none⟩ ∧ X.cell? ⟨b, o + j, none⟩ = some (.int .i64 (nth w j)) ∧ 0 ≤ nth w j) := fun X hb j hj => by
    obtain ⟨b, o, e, _, c⟩ := h2.keep hb j (by omega)
    exact ⟨b, o, e, c, hw0 j hj⟩
  have HBt : Hid (∀ X, Below W.heap.size W X → ∀ x y : Nat, x < v.length → y < v.length → Calls Try.prog 56 #[.slice va v.length vc, .slice wa v.length wc, .int .i64 x, .int .i64 y] X fun e w' => e = .returned (.bool (ltR v w x y)) ∧ Below X.heap.size X w') :=
    fun X hb x y hx hy => better_any v w e1.symm bv bw va wa vc wc x y hx hy X (h1.keep hb) (h2.keep hb)
  obtain ⟨P, hP⟩ : ∃ P : Nat → Nat → Nat, ∀ a b, P a b = cb (fun z => ltR v w z a) b := ⟨_, fun _ _ => rfl⟩
  have HP0 : Hid (∀ a, P a 0 = 0) := fun a => by rw [hP, cb_zero]
  have HPy : Hid (∀ a b, ltR v w b a = true → P a (b + 1) = P a b + 1) := fun a b h => by rw [hP, hP]; exact cb_yes h
  have HPn : Hid (∀ a b, ltR v w b a = false → P a (b + 1) = P a b) := fun a b h => by rw [hP, hP]; exact cb_no (by simp [h])
  have HPl : Hid (∀ a b, P a b ≤ b) := fun a b => by rw [hP]; exact cb_le _ _
  have HPr : Hid (∀ a, P a v.length = rko (ltR v w) v.length a) := fun a => hP a _
  have HIr : Hid (∀ a, a < v.length → ltR v w a a = false) := fun a ha => by simpa using (ltR_ord _ v w hw0).irr a ha
  have HRin : Hid (∀ a, a < v.length → rko (ltR v w) v.length a < v.length) := fun a ha => rko_in (ltR_ord _ v w hw0) ha
  have HRne : Hid (∀ a b, a < v.length → b < v.length → a ≠ b → rko (ltR v w) v.length a ≠ rko (ltR v w) v.length b) := fun a b ha hb hab => rko_ne (ltR_ord _ v w hw0) ha hb hab
  have HEnd := Lib.hid (fun (X : World) (g : Nat) (Z : List Int) (w' : World) (e : Ending) (he : e = .returned (.tuple #[.slice (some ⟨g, 0, none⟩) v.length v.length, .int .i64 0])) (ho : Own X.heap.size g v.length v.length Z W w') (hw : X.heap.size = W.heap.size) hz => ratZ_of (w0 := W) v w X he ho hw hz)
  clear h1 h2 hP nv nw bv bw hw0
  have hl : w.length = v.length := e1.symm
  clear e1
  generalize w.length = m at *
  subst hl
  generalize hN : v.length = n at *
  clear hN
  have n1 : ¬ (64 : Int) < (n : Int) := by omega
  go_enter Try.func45, Try.ntmps45
  go_wp2
  go_loop [6] (fun i => ∃ k : Nat, k ≤ n ∧ i = .int .i64 k) (fun i => n - (intOf i).toNat)
  case atStart => exact ⟨0, by omega, rfl⟩
  case round =>
    obtain ⟨k, hk, rfl⟩ := hrel
    by_cases hlt : k < n
    · obtain ⟨b, o, rfl, c1, p1⟩ := HV.out _ (Below.refl _ _) k hlt
      obtain ⟨b', o', rfl, c2, p2⟩ := HW.out _ (Below.refl _ _) k hlt
      have q1 : ¬ nth v k < 0 := by omega
      have q2 : ¬ nth w k < 0 := by omega
      generalize nth v k = x at *
      generalize nth w k = y at *
      go_wp2
      go_round
      case rel => exact ⟨k + 1, by omega, by go_num⟩
      case measure => simp [intOf]; omega
    · obtain rfl : n = k := by omega
      go_wp2_with (at_make; refine wpList_make_full _ rfl _ _ 22 rfl W.heap.size 3 i0 (.int .i64 0) 1 Try.underlying22 hi hz0 hz1 .i64 .i64 _ _ n rfl rfl rfl rfl (by rw [hz2]; omega) (by unfold maxLen; omega) (Nat.le_refl _) ?_)
      intro w2 hown hgrow
      have A0 : Hid (Own W.heap.size W.heap.size n n (List.replicate n 0) W w2) := ⟨by simp, Nat.le_refl _, by rw [List.map_replicate, ← toList_madeCells_one]; exact hown, (Below.refl _ _).grown hgrow (Nat.le_refl _) (fun j hj => by cases hj)⟩
      clear hown hgrow
      obtain ⟨g, hg⟩ : ∃ g, g = W.heap.size := ⟨_, rfl⟩
      rw [← hg] at A0
      go_wp2
      rw [← hg]
      have HG := Lib.hid hg
      clear hg
      go_loopw [8] (fun i wr => ∃ (a : Nat) (Z : List Int), a ≤ n ∧ i = .int .i64 a ∧ Hid (∀ a', a' < a → nth Z (rko (ltR v w) n a') = (a' : Int)) ∧ Hid (Own g g n n Z W wr)) (fun i _ => n - (intOf i).toNat)
      case atStart => exact ⟨0, _, by omega, rfl, fun a' h => by omega, A0⟩
      case round =>
        clear A0
        obtain ⟨a, Z, ha, rfl, HZ, HO⟩ := hrel
        by_cases hlt : a < n
        · go_wp2
          go_loopw [9, 10] (fun i j wr' => ∃ b : Nat, b ≤ n ∧ i = .int .i64 (P a b : Nat) ∧ j = .int .i64 b ∧ Hid (Own g g n n Z W wr')) (fun _ j _ => n - (intOf j).toNat)
          case atStart => exact ⟨0, by omega, by rw [HP0.out]; rfl, rfl, HO⟩
          case round =>
            clear HO
            obtain ⟨b, hb, rfl, rfl, HO⟩ := hrel
            have hPl := HPl.out a b
            by_cases hlb : b < n
            · have bel := HO.out.2.2.2
              rw [HG.out] at bel
              by_cases hab : b = a
              · have hy := HPn.out a b (by rw [hab]; exact HIr.out a hlt)
                have hne : ((b : Int) != (a : Int)) = false := by simp [hab]
                clear bel
                generalize hpb : P a b = pb at *
                go_wp2
                go_roundw
                case rel => exact ⟨b + 1, by omega, by rw [hy], by go_num, HO⟩
                case measure => simp [intOf]; omega
              · have hne : ((b : Int) != (a : Int)) = true := by simp; omega
                have HBb := Lib.hid (HBt.out _ bel b a hlb hlt)
                clear bel
                by_cases hlt2 : ltR v w b a = true
                · have hy := HPy.out a b hlt2
                  rw [hlt2] at HBb
                  generalize P a b = pb at *
                  go_wp2_with fail
                  refine HBb.out.mono ?_; rintro e w3 ⟨rfl, b3⟩
                  have HO3 := Lib.hid (HO.out.keep b3)
                  clear b3
                  go_wp2
                  go_roundw
                  case rel => exact ⟨b + 1, by omega, by rw [hy]; go_num, by go_num, HO3⟩
                  case measure => simp [intOf]; omega
                · have hlf : ltR v w b a = false := by simpa using hlt2
                  have hy := HPn.out a b hlf
                  rw [hlf] at HBb
                  generalize hpb : P a b = pb at *
                  go_wp2_with fail
                  refine HBb.out.mono ?_; rintro e w3 ⟨rfl, b3⟩
                  have HO3 := Lib.hid (HO.out.keep b3)
                  clear b3
                  go_wp2
                  go_roundw
                  case rel => exact ⟨b + 1, by omega, by rw [hy], by go_num, HO3⟩
                  case measure => simp [intOf]; omega
            · obtain rfl : n = b := by omega
              have hr := HPr.out a
              have hri := HRin.out a hlt
              have HZ2 : Hid (∀ a', a' < a + 1 → nth (Z.set (rko (ltR v w) n a) a) (rko (ltR v w) n a') = (a' : Int)) := fun a' ha' => by
                rw [nth_set _ _ _ _ (by rw [HO.out.1]; exact hri)]
                by_cases e : a' = a
                · subst e; rw [if_pos rfl]
                · rw [if_neg (fun q => HRne.out a a' hlt (by omega) (fun q' => e q'.symm) q)]
                  exact HZ.out a' (by omega)
              have HOs := Lib.hid (HO.out.set (rko (ltR v w) n a) (a : Int))
              have fz := HO.out.frozen (rko (ltR v w) n a)
              have cz := HO.out.cell (rko (ltR v w) n a) hri
              rw [hr]
              generalize rko (ltR v w) n a = r at *
              go_wp2
              go_roundw
              case rel => exact ⟨a + 1, _, by omega, by go_num, HZ2, HOs⟩
              case measure => simp [intOf]; omega
        · obtain rfl : n = a := by omega
          go_wp2
          go_ret2
          obtain ⟨g', Z', h1, h2, h3, h4⟩ := HEnd.out W g Z _ _ rfl (by rw [← HG.out]; exact HO.out) rfl HZ.out
          exact ⟨g', Z', h1, h2, h3, h4⟩
end Go.Proofs.Yteoionlnnjcggaa.od

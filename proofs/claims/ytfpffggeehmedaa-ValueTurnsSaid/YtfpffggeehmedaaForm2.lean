/-
  What value.inForm answers of an order: whether the set of its numbers is full.
-/
import Derived.Test.YtfpffggeehmedaaForm
import Derived.Deep.RegionWith
namespace Go.Proofs.Ytfpffggeehmedaa
open Go.RowKit
set_option linter.unusedVariables false

theorem box6_keep {W W1 : World} {b : Nat} {v0 v1 v2 v3 v4 v5 : Value} (hb : Below W.heap.size W W1) (q : W.heap[b]? = some (.cells #[v0, v1, v2, v3, v4, v5] 25 (0, 0))) :
    W1.cell? ⟨b, 0, none⟩ = some v0 ∧ W1.cell? ⟨b, 1, none⟩ = some v1 ∧ W1.cell? ⟨b, 2, none⟩ = some v2 ∧ W1.cell? ⟨b, 3, none⟩ = some v3 ∧ W1.cell? ⟨b, 4, none⟩ = some v4 ∧ W1.cell? ⟨b, 5, none⟩ = some v5 := box6 ((hb.block _ (lt_hp q)).trans q)
theorem bl_drew (X : World) : Below X.heap.size X X.drew := ⟨rfl, rfl, rfl, Nat.le_refl _, fun _ _ => rfl⟩
set_option maxHeartbeats 1000000 in
theorem form_perm (K C : Int) (hK : K ≠ 1) (wa va ca : Option Addr) (wn vn cn wc vc cc : Nat) (x : List Int) (h0 : 0 < x.length) (hx : K = 3 → x[0]?.getD 0 = 0) (hl : x.length < 64) (a : Option Addr) (c : Nat) (w : World) (hI : Ints w a x) :
    Calls Try.prog 20 #[.agg #[.int .i64 K, .int .i64 x.length, .int .i64 C, .slice wa wn wc, .slice va vn vc, .slice ca cn cc], .slice a x.length c] w
      fun e w' => e = .returned (.bool ((((lo (ofS 0 x) : Nat) : Int) == ((lo (2 ^ x.length - 1) : Nat) : Int)) && (((hi (ofS 0 x) : Nat) : Int) == ((hi (2 ^ x.length - 1) : Nat) : Int)))) ∧ Below w.heap.size w w' := by
  obtain ⟨b, o, rfl, hb, hc⟩ := hI 0 h0
  rw [Nat.add_zero] at hc
  have bA : Below w.heap.size w (w.alloc (.cells #[.int .i64 K, .int .i64 x.length, .int .i64 C, .slice wa wn wc, .slice va vn vc, .slice ca cn cc] 25)) := bl_al (Below.refl _ _) _
  have HO := Lib.hid (fun W (h : Below (w.alloc (.cells #[.int .i64 K, .int .i64 x.length, .int .i64 C, .slice wa wn wc, .slice va vn vc, .slice ca cn cc] 25)).heap.size (w.alloc (.cells #[.int .i64 K, .int .i64 x.length, .int .i64 C, .slice wa wn wc, .slice va vn vc, .slice ca cn cc] 25)) W) => of_any x (some ⟨b, o, none⟩) c W ((hI.keep bA).keep h) (by omega))
  have HF := Lib.hid (fun W => full_any x.length hl W)
  have Q := Lib.hid (heap_alloc_new w (.cells #[.int .i64 K, .int .i64 x.length, .int .i64 C, .slice wa wn wc, .slice va vn vc, .slice ca cn cc] 25))
  have BA := Lib.hid bA
  have HX := Lib.hid hx
  have E := fun W => eq_two (lo (ofS 0 x) : Nat) (hi (ofS 0 x) : Nat) (lo (2 ^ x.length - 1) : Nat) (hi (2 ^ x.length - 1) : Nat) W
  have HE := Lib.hid E
  clear hI bA hx E
  have h0' : ((x.length : Int)) > 0 := by omega
  generalize x[0]?.getD 0 = y at *
  generalize lo (ofS 0 x) = p0 at *
  generalize hi (ofS 0 x) = p1 at *
  generalize lo (2 ^ x.length - 1) = f0 at *
  generalize hi (2 ^ x.length - 1) = f1 at *
  generalize x.length = m at *
  rcases Classical.em (K = 3) with hk | hk
  rotate_right
  · have hk3 : (K == 3) = false := by simp [hk]
    clear HX
    go_enter Try.func20, Try.ntmps20
    go_wp2
    generalize (w.alloc (.cells #[.int .i64 K, .int .i64 m, .int .i64 C, .slice wa wn wc, .slice va vn vc, .slice ca cn cc] 25)) = X at *
    obtain ⟨c0, c1, c2, c3, c4, c5⟩ := box6_keep (Below.refl _ _) Q.out
    have E := HE.out
    go_region_with (first
      | (go_at_call 33; refine (HO.out _ (by first | exact bl_drew _ | exact bl_undr hb2)).mono ?_; rintro e w1 ⟨rfl, hb1⟩; obtain ⟨d0, d1, d2, d3, d4, d5⟩ := box6_keep (by first | exact bl_tr (bl_undr hb2) hb1 | exact bl_tr (bl_drew _) hb1) Q.out)
      | (go_at_call 34; refine (HF.out _).mono ?_; rintro e w2 ⟨rfl, hb2⟩))
    all_goals
      go_wp2
      go_ret
      exact ⟨rfl, BA.out.trans ((bl_tr (bl_undr hb1) hb2).mono BA.out.size)⟩
  · have hy := HX.out hk
    subst hk hy
    clear HX hK
    go_enter Try.func20, Try.ntmps20
    go_wp2
    generalize (w.alloc (.cells #[.int .i64 3, .int .i64 m, .int .i64 C, .slice wa wn wc, .slice va vn vc, .slice ca cn cc] 25)) = X at *
    obtain ⟨c0, c1, c2, c3, c4, c5⟩ := box6_keep (Below.refl _ _) Q.out
    have E := HE.out
    go_region_with (first
      | (go_at_call 33; refine (HO.out _ (by first | exact bl_drew _ | exact bl_undr hb2)).mono ?_; rintro e w1 ⟨rfl, hb1⟩; obtain ⟨d0, d1, d2, d3, d4, d5⟩ := box6_keep (by first | exact bl_tr (bl_undr hb2) hb1 | exact bl_tr (bl_drew _) hb1) Q.out)
      | (go_at_call 34; refine (HF.out _).mono ?_; rintro e w2 ⟨rfl, hb2⟩))
    all_goals
      go_wp2
      go_ret
      exact ⟨rfl, BA.out.trans ((bl_tr (bl_undr hb1) hb2).mono BA.out.size)⟩
theorem set_same (a b : Nat) : ((((lo a : Nat) : Int) == ((lo b : Nat) : Int)) && (((hi a : Nat) : Int) == ((hi b : Nat) : Int))) = decide (a = b) := by
  by_cases h : a = b
  · subst h; simp
  · simp [h]
    intro h1 h2
    exact h (lo_hi a b (by omega) (by omega))
open Classical in
/-- what value.inForm answers of a problem of so many -/
theorem form_any (K N C : Int) (hN : 1 ≤ N) (hN2 : K ≠ 1 → N < 64) (wa va ca : Option Addr) (wn vn cn wc vc cc : Nat) (x : List Int) (a : Option Addr) (c : Nat) (w : World) (hI : Ints w a x) (hl : x.length ≤ 1000) :
    Calls Try.prog 20 #[.agg #[.int .i64 K, .int .i64 N, .int .i64 C, .slice wa wn wc, .slice va vn vc, .slice ca cn cc], .slice a x.length c] w
      fun e w' => e = .returned (.bool (decide (okx K N x))) ∧ Below w.heap.size w w' := by
  by_cases h1 : (x.length : Int) = N
  · subst h1
    by_cases hK : K = 1
    · subst hK
      have e : decide (okx 1 x.length x) = !anyBad x := by
        unfold okx
        cases h : anyBad x <;> simp
      rw [e]
      exact form_item C 0 wa va ca wn vn cn wc vc cc x a c w hI hl
    · by_cases h3 : K = 3 ∧ ¬ x[0]?.getD 0 = 0
      · obtain ⟨rfl, h3⟩ := h3
        have e : decide (okx 3 x.length x) = false := by
          unfold okx
          simp
          intro h; exact absurd h h3
        rw [e]
        exact form_home C wa va ca wn vn cn wc vc cc x (by omega) h3 a c w hI
      · have e : decide (okx K x.length x) = decide (ofS 0 x = 2 ^ x.length - 1) := by
          congr 1
          rw [full_iff x x.length (by have := hN2 hK; omega) rfl]
          unfold okx
          simp only [eq_iff_iff, true_and, Int.toNat_natCast]
          constructor
          · rintro (h | h)
            · exact absurd h.1 hK
            · exact h.2.2
          · intro h
            exact Or.inr ⟨hK, fun h' => Classical.byContradiction fun hc => h3 ⟨h', hc⟩, h⟩
        rw [e, ← set_same]
        exact form_perm K C hK wa va ca wn vn cn wc vc cc x (by omega) (fun h' => Classical.byContradiction fun hc => h3 ⟨h', hc⟩) (by have := hN2 hK; omega) a c w hI
  · have e : decide (okx K N x) = false := by
      unfold okx
      simp [h1]
    rw [e]
    exact form_len K N C wa va ca wn vn cn wc vc cc x.length h1 a c w
end Go.Proofs.Ytfpffggeehmedaa

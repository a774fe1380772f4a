/-
  assign: the reference's Reduce, walked.
-/
import Derived.Test.YtlhpiikpmmlpeaaDoorBm
import Derived.Test.YtlhpiikpmmlpeaaDoorBb
namespace Go.Proofs.YtlhpiikpmmlpeaaDoor.kn
open Go.RowKit
set_option linter.unusedVariables false
set_option linter.unusedSimpArgs false
/-- what was taken from the rows, in memory -/
structure RL (w : World) (f : Nat → Int) (W : World) : Prop where
  blk : ∃ C : Array Value, W.heap[w.heap.size]? = some (.cells C 85 (0, 0)) ∧ C.size = 30 ∧ ∀ v, v < 30 → C[v]? = some (.int .i64 (f v))
  bel : Below w.heap.size w W
theorem RL.cell {w W : World} {f : Nat → Int} (h : RL w f W) (v : Nat) (hv : v < 30) : W.cell? ⟨w.heap.size, v, none⟩ = some (.int .i64 (f v)) := by
  obtain ⟨C, h1, h2, h3⟩ := h.blk
  rw [cell_of_row _ _ _ _ _ _ h1, h3 v hv]
theorem RL.froz {w W : World} {f : Nat → Int} (h : RL w f W) (v : Nat) : W.frozen? ⟨w.heap.size, v, none⟩ = false := by
  obtain ⟨C, h1, h2, h3⟩ := h.blk
  exact frozen_of_row _ _ _ _ _ h1
theorem RL.set {w W : World} {f f' : Nat → Int} (h : RL w f W) (v : Nat) (x : Int) (hf : ∀ u, f' u = if u = v then x else f u) : RL w f' (W.setCell ⟨w.heap.size, v, none⟩ (.int .i64 x)) := by
  obtain ⟨C, h1, h2, h3⟩ := h.blk
  refine ⟨⟨C.setIfInBounds v (.int .i64 x), heap_setCell_same W _ v C 85 _ h1, by simpa using h2, fun u hu => ?_⟩, h.bel.setCell (p := ⟨w.heap.size, v, none⟩) (Nat.le_refl _) _⟩
  rw [hf u, Array.getElem?_setIfInBounds, h3 u hu]
  by_cases h4 : v = u
  · subst h4; simp; omega
  · rw [if_neg h4, if_neg (fun h => h4 h.symm)]
theorem RL.dn {w W : World} {f : Nat → Int} (h : RL w f W) (n : Nat) : RL w f (W.drewN n) := ⟨h.blk, h.bel.trans (bl_dn (Below.refl _ W) n)⟩
/-- what was taken, behind k rows -/
def lsf (M : List (List Int)) (k v : Nat) : Int := if v < k then les (M[v]?.getD []) else 0
theorem lsf_next (M : List (List Int)) (k u : Nat) : lsf M (k + 1) u = if u = k then les (M[k]?.getD []) else lsf M k u := by
  unfold lsf
  by_cases h : u = k
  · subst h; rw [if_pos rfl, if_pos (by omega)]
  · rw [if_neg h]
    by_cases h2 : u < k
    · rw [if_pos h2, if_pos (by omega)]
    · rw [if_neg h2, if_neg (by omega)]
def EntM (M : List (List Int)) (C : Nat) : Prop := ∀ r c : Nat, r < M.length → c < C → 0 ≤ od.nth (M[r]?.getD []) c ∧ od.nth (M[r]?.getD []) c ≤ 2147483647
theorem stp_bd {l v u b : Int} (hl : -1 ≤ l ∧ l ≤ b) (hu : -1 ≤ u ∧ u ≤ b) : -1 ≤ stp l v u ∧ stp l v u ≤ b := by
  unfold stp; split <;> omega
theorem rlr_bd {M : List (List Int)} {C r : Nat} (hE : EntM M C) (hr : r < M.length) : ∀ k, k ≤ C → -1 ≤ rlr (M[r]?.getD []) k ∧ rlr (M[r]?.getD []) k ≤ 2147483647
  | 0, _ => ⟨by show (-1 : Int) ≤ -1; omega, by show (-1 : Int) ≤ _; omega⟩
  | k + 1, hk => by
    have := hE r k hr (by omega)
    exact stp_bd (rlr_bd hE hr k (by omega)) ⟨by omega, by omega⟩
theorem les_bd {M : List (List Int)} {C r : Nat} (hE : EntM M C) (hr : r < M.length) (hC : (M[r]?.getD []).length = C) : 0 ≤ les (M[r]?.getD []) ∧ les (M[r]?.getD []) ≤ 2147483647 := by
  have := rlr_bd hE hr C (Nat.le_refl _)
  unfold les
  rw [hC]
  omega
theorem sm1_bd {M : List (List Int)} {C : Nat} (hE : EntM M C) (hC : ∀ r, r < M.length → (M[r]?.getD []).length = C) : ∀ k, k ≤ M.length → 0 ≤ sm1 M k ∧ sm1 M k ≤ k * 2147483647
  | 0, _ => ⟨Int.le_refl _, by show (0 : Int) ≤ _; omega⟩
  | k + 1, hk => by
    obtain ⟨i1, i2⟩ := sm1_bd hE hC k (by omega)
    have := les_bd hE (show k < M.length by omega) (hC k (by omega))
    push_cast
    exact ⟨by show 0 ≤ sm1 M k + _; omega, by show sm1 M k + _ ≤ _; omega⟩
theorem clr_bd {M : List (List Int)} {C c : Nat} (hE : EntM M C) (hC : ∀ r, r < M.length → (M[r]?.getD []).length = C) (hc : c < C) : ∀ k, k ≤ M.length → -2147483647 ≤ clr M c k ∧ clr M c k ≤ 2147483647
  | 0, _ => ⟨by show _ ≤ (-1 : Int); omega, by show (-1 : Int) ≤ _; omega⟩
  | k + 1, hk => by
    have i := clr_bd hE hC hc k (by omega)
    have e := hE k c (by omega) hc
    have l := les_bd hE (show k < M.length by omega) (hC k (by omega))
    show _ ≤ stp _ _ _ ∧ stp _ _ _ ≤ _
    unfold stp
    split <;> omega
theorem sm2_bd {M : List (List Int)} {C : Nat} (hE : EntM M C) (hC : ∀ r, r < M.length → (M[r]?.getD []).length = C) (h24 : M.length ≤ 24) : ∀ k, k ≤ C → 0 ≤ sm2 M k ∧ sm2 M k ≤ 51539607528 + k * 2147483647
  | 0, _ => by
    have := sm1_bd hE hC M.length (Nat.le_refl _)
    constructor
    · show 0 ≤ sm1 M M.length; omega
    · show sm1 M M.length ≤ _; omega
  | k + 1, hk => by
    have i := sm2_bd hE hC h24 k (by omega)
    have c := clr_bd hE hC (show k < C by omega) M.length (Nat.le_refl _)
    push_cast
    constructor
    · show 0 ≤ sm2 M k + max (clr M k M.length) 0; omega
    · show sm2 M k + max (clr M k M.length) 0 ≤ _; omega
set_option maxRecDepth 100000 in
set_option maxHeartbeats 16000000 in
theorem reduce_any (M : List (List Int)) (C : Nat) (h24 : M.length ≤ 24) (hC24 : C ≤ 24) (hC : ∀ r, r < M.length → (M[r]?.getD []).length = C) (hE : EntM M C) (ma : Option Addr) (mc : Nat) (w : World) (hM : Rws w ma M) :
    Calls Tryd.prog 58 #[.slice ma M.length mc] w fun e w' => e = .returned (.int .i64 (redR M)) ∧ Below w.heap.size w w' := by
  have HRow : Hid (∀ (f : Nat → Int) (X : World), RL w f X → ∀ r, r < M.length → ∃ b o a c, ma = some ⟨b, o, none⟩ ∧ X.cell? ⟨b, o + r, none⟩ = some (.slice a C c) ∧ ∀ j, j < C → ∃ b2 o2, a = some ⟨b2, o2, none⟩ ∧ X.cell? ⟨b2, o2 + j, none⟩ = some (.int .i64 (od.nth (M[r]?.getD []) j))) := Lib.hid fun f X h r hr => by
    obtain ⟨b, o, a, c, e1, l1, m1, i1, _⟩ := hM r hr
    rw [hC r hr] at m1
    refine ⟨b, o, a, c, e1, (h.bel.cell (p := ⟨b, o + r, none⟩) l1).trans m1, fun j hj => ?_⟩
    obtain ⟨b2, o2, e2, l2, m2⟩ := i1 j (by rw [hC r hr]; exact hj)
    exact ⟨b2, o2, e2, (h.bel.cell (p := ⟨b2, o2 + j, none⟩) l2).trans (by rw [m2]; unfold od.nth; rfl)⟩
  have HE := Lib.hid hE
  have HS1 := Lib.hid (sm1_bd hE hC)
  have HLe : Hid (∀ r, r < M.length → les (M[r]?.getD []) = max (rlr (M[r]?.getD []) C) 0) := Lib.hid fun r hr => by unfold les; rw [hC r hr]
  have HRb := Lib.hid (fun r (hr : r < M.length) => rlr_bd hE hr)
  have HLb := Lib.hid (fun r (hr : r < M.length) => les_bd hE hr (hC r hr))
  have HR0 : Hid (RL w (lsf M 0) (w.alloc (.cells #[.int .i64 0, .int .i64 0, .int .i64 0, .int .i64 0, .int .i64 0, .int .i64 0, .int .i64 0, .int .i64 0, .int .i64 0, .int .i64 0, .int .i64 0, .int .i64 0, .int .i64 0, .int .i64 0, .int .i64 0, .int .i64 0, .int .i64 0, .int .i64 0, .int .i64 0, .int .i64 0, .int .i64 0, .int .i64 0, .int .i64 0, .int .i64 0, .int .i64 0, .int .i64 0, .int .i64 0, .int .i64 0, .int .i64 0, .int .i64 0] 85))) := Lib.hid (by
    refine ⟨⟨_, heap_alloc_new w _, rfl, fun v hv => ?_⟩, bl_al (Below.refl _ _) _⟩
    have e : (#[.int .i64 0, .int .i64 0, .int .i64 0, .int .i64 0, .int .i64 0, .int .i64 0, .int .i64 0, .int .i64 0, .int .i64 0, .int .i64 0, .int .i64 0, .int .i64 0, .int .i64 0, .int .i64 0, .int .i64 0, .int .i64 0, .int .i64 0, .int .i64 0, .int .i64 0, .int .i64 0, .int .i64 0, .int .i64 0, .int .i64 0, .int .i64 0, .int .i64 0, .int .i64 0, .int .i64 0, .int .i64 0, .int .i64 0, .int .i64 0] : Array Value) = Array.replicate 30 (.int .i64 0) := rfl
    rw [e, Array.getElem?_replicate, if_pos hv]
    unfold lsf
    rw [if_neg (by omega)])
  have HNx := Lib.hid (lsf_next M)
  have HCl := Lib.hid hC
  obtain ⟨R, hR⟩ : ∃ R, R = M.length := ⟨_, rfl⟩
  have HRR := Lib.hid hR
  rw [← hR] at h24 HRow HS1 HLe HRb HLb HCl ⊢
  clear hR hC hE hM
  go_enter Tryd.func58, Tryd.ntmps58
  go_wp2
  generalize (w.alloc (.cells #[.int .i64 0, .int .i64 0, .int .i64 0, .int .i64 0, .int .i64 0, .int .i64 0, .int .i64 0, .int .i64 0, .int .i64 0, .int .i64 0, .int .i64 0, .int .i64 0, .int .i64 0, .int .i64 0, .int .i64 0, .int .i64 0, .int .i64 0, .int .i64 0, .int .i64 0, .int .i64 0, .int .i64 0, .int .i64 0, .int .i64 0, .int .i64 0, .int .i64 0, .int .i64 0, .int .i64 0, .int .i64 0, .int .i64 0, .int .i64 0] 85)) = W0 at *
  go_loopw [3, 5] (fun s i wr => ∃ r : Nat, r ≤ R ∧ s = .int .i64 (sm1 M r) ∧ i = .int .i64 r ∧ Hid (RL w (lsf M r) wr)) (fun _ i _ => R - (intOf i).toNat)
  case atStart => exact ⟨0, by omega, rfl, rfl, HR0⟩
  case round =>
    clear HR0
    obtain ⟨r, hr, rfl, rfl, HR⟩ := hrel
    by_cases hlt : r < R
    · obtain ⟨b, o, a, c, rfl, m1, m2⟩ := HRow.out _ wr HR.out r hlt
      have M2 := Lib.hid m2
      have r1 : (r : Int) < (R : Int) := by omega
      have r0 : (0 : Int) ≤ (r : Int) := by omega
      have r30 : (r : Int) < 30 := by omega
      have HEr := Lib.hid (fun k (hk : k < C) => HE.out r k (by rw [← HRR.out]; exact hlt) hk)
      have HRbr := HRb.out r hlt
      clear m2
      generalize hrow : M[r]?.getD [] = row at M2 HEr HRbr
      have HRo := Lib.hid hrow
      clear hrow
      have HRB := Lib.hid HRbr
      clear HRbr
      go_wp2
      go_loopw [6, 7] (fun l j wr' => ∃ k : Nat, k ≤ C ∧ l = .int .i64 (rlr row k) ∧ j = .int .i64 k ∧ wr' = wr) (fun _ j _ => C - (intOf j).toNat)
      case atStart => exact ⟨0, by omega, rfl, rfl, rfl⟩
      case round =>
        obtain ⟨k, hk, rfl, rfl, rfl⟩ := hrel
        by_cases hkl : k < C
        · obtain ⟨b2, o2, rfl, e1⟩ := M2.out k hkl
          obtain ⟨v0, v1⟩ := HEr.out k hkl
          obtain ⟨l0, l1⟩ := HRB.out k hk
          have HN : Hid (rlr row (k + 1) = stp (rlr row k) (od.nth row k) (od.nth row k)) := Lib.hid rfl
          have k1 : (k : Int) < (C : Int) := by omega
          have k0 : (0 : Int) ≤ (k : Int) := by omega
          have dv := decide_eq_true v0
          generalize od.nth row k = v at *
          generalize rlr row k = l at *
          by_cases q1 : l < 0
          · have HV := Lib.hid (show stp l v v = v from by unfold stp; rw [if_pos ⟨v0, .inl q1⟩])
            have d1 := decide_eq_true q1
            go_wp2
            go_roundw
            case rel => exact ⟨k + 1, by omega, by rw [HN.out, HV.out], by go_num, by first | trivial | rfl⟩
            case measure => simp [intOf]; omega
          · have d1 := decide_eq_false q1
            by_cases q2 : v < l
            · have HV := Lib.hid (show stp l v v = v from by unfold stp; rw [if_pos ⟨v0, .inr q2⟩])
              have d2 := decide_eq_true q2
              go_wp2
              go_roundw
              case rel => exact ⟨k + 1, by omega, by rw [HN.out, HV.out], by go_num, by first | trivial | rfl⟩
              case measure => simp [intOf]; omega
            · have HV := Lib.hid (show stp l v v = l from by unfold stp; rw [if_neg (by omega)])
              have d2 := decide_eq_false q2
              go_wp2
              go_roundw
              case rel => exact ⟨k + 1, by omega, by rw [HN.out, HV.out], by go_num, by first | trivial | rfl⟩
              case measure => simp [intOf]; omega
        · obtain rfl : C = k := by omega
          have hb := HRB.out C (Nat.le_refl _)
          have hle := HLe.out r hlt
          have hs := HS1.out r hr
          have hss : sm1 M (r + 1) = sm1 M r + les (M[r]?.getD []) := rfl
          have hst := fun x (hx : x = les (M[r]?.getD [])) => HR.out.set (f' := lsf M (r + 1)) r x (fun u => by rw [HNx.out r u, hx])
          rw [HRo.out] at hle hss hst
          have HSs := Lib.hid hss
          have HSt := Lib.hid hst
          have fz := HR.out.froz r
          have cz := HR.out.cell r (by omega)
          have rr : (r : Int) ≤ 24 := by omega
          clear hss hst
          generalize les row = y at *
          generalize rlr row C = l at *
          generalize sm1 M r = sm at *
          have wr1 : IntKind.i64.wrap (sm + l) = sm + l := by rw [IntKind.wrap_i64]; omega
          have wr2 : IntKind.i64.wrap sm = sm := by rw [IntKind.wrap_i64]; omega
          by_cases ql : l < 0
          · have ey : y = 0 := by omega
            go_wp2
            go_roundw
            case rel => exact ⟨r + 1, by omega, by rw [HSs.out, ey]; simp, by go_num, Lib.hid (HSt.out _ ey.symm)⟩
            case measure => simp [intOf]; omega
          · have ey : y = l := by omega
            have EY := Lib.hid ey
            clear ey
            go_wp2
            go_roundw
            case rel => exact ⟨r + 1, by omega, by rw [HSs.out, EY.out], by go_num, Lib.hid (HSt.out _ EY.out.symm)⟩
            case measure => simp [intOf]; omega
    · obtain rfl : R = r := by omega
      have hs1 := HS1.out R (Nat.le_refl _)
      have HS0 : Hid (sm2 M 0 = sm1 M R) := Lib.hid (by rw [HRR.out]; rfl)
      by_cases hR0 : R = 0
      · have HRd : Hid (redR M = sm1 M R) := Lib.hid (by unfold redR; rw [← HRR.out, if_neg (by omega)]; exact HS0.out)
        have g0 : ¬ (0 : Int) < (R : Int) := by omega
        have g1 : ¬ 0 < R := by omega
        have bel := Lib.hid HR.out.bel
        clear HRow HE HS1 HLe HRb HLb HNx hs1
        have HRd2 := Lib.hid HRd.out.symm
        generalize sm1 M R = sm at *
        go_wp2
        go_loopw [3, 8] (fun s i wr' => s = .int .i64 sm ∧ i = .int .i64 0 ∧ wr' = wr) (fun _ _ _ => 0)
        case atStart => exact ⟨rfl, rfl, rfl⟩
        case round =>
          obtain ⟨rfl, rfl, rfl⟩ := hrel
          go_wp2
          first
            | exact ⟨by rw [HRd.out]; first | done | rfl, bel.out⟩
            | (go_ret; exact ⟨by rw [HRd.out]; first | done | rfl, bel.out⟩)
      · have hRp : 0 < R := by omega
        have g0 : (0 : Int) < (R : Int) := by omega
        have HRd : Hid (redR M = sm2 M C) := Lib.hid (by
          obtain ⟨b, o, a, c, rfl, m1, m2⟩ := HRow.out _ wr HR.out 0 hRp
          unfold redR
          rw [← HRR.out, if_pos hRp]
          exact congrArg (sm2 M) (HCl.out 0 hRp))
        have H2b := Lib.hid (fun k (hk : k ≤ C) => sm2_bd HE.out (by intro r hr; exact HCl.out r (by rw [HRR.out]; exact hr)) (by rw [← HRR.out]; exact h24) k hk)
        obtain ⟨b, o, a0, c0, rfl, m0, _⟩ := HRow.out _ wr HR.out 0 hRp
        have HS00 := Lib.hid HS0.out.symm
        clear hs1
        go_wp2
        go_loopw [3, 8] (fun s i wr' => ∃ x : Nat, x ≤ C ∧ s = .int .i64 (sm2 M x) ∧ i = .int .i64 x ∧ Hid (RL w (lsf M R) wr')) (fun _ i _ => C - (intOf i).toNat)
        case atStart => exact ⟨0, by omega, by rw [HS00.out], rfl, HR⟩
        case round =>
          clear HR m0
          obtain ⟨x, hx, rfl, rfl, HR⟩ := hrel
          obtain ⟨b', o', a0, c0, e', m0, _⟩ := HRow.out _ wr HR.out 0 hRp
          injection e' with e'
          injection e' with e1 e2
          subst e1 e2
          rw [Nat.add_zero] at m0
          by_cases hxl : x < C
          · have x1 : (x : Int) < (C : Int) := by omega
            have x0 : (0 : Int) ≤ (x : Int) := by omega
            go_wp2
            go_loopw [9, 10] (fun l j wr' => ∃ k : Nat, k ≤ R ∧ l = .int .i64 (clr M x k) ∧ j = .int .i64 k ∧ Hid (RL w (lsf M R) wr')) (fun _ j _ => R - (intOf j).toNat)
            case atStart => exact ⟨0, by omega, rfl, rfl, HR⟩
            case round =>
              clear HR m0
              obtain ⟨k, hk, rfl, rfl, HR⟩ := hrel
              by_cases hkl : k < R
              · obtain ⟨b', o', ak, ck, e', m1, m2⟩ := HRow.out _ wr HR.out k hkl
                injection e' with e'
                injection e' with e1 e2
                subst e1 e2
                obtain ⟨b2, o2, rfl, m3⟩ := m2 x hxl
                have l1 := HR.out.cell k (by omega)
                have el : lsf M R k = les (M[k]?.getD []) := by unfold lsf; rw [if_pos hkl]
                rw [el] at l1
                obtain ⟨v0, v1⟩ := HE.out k x (by rw [← HRR.out]; exact hkl) hxl
                obtain ⟨y0, y1⟩ := HLb.out k hkl
                have HN : Hid (clr M x (k + 1) = stp (clr M x k) (od.nth (M[k]?.getD []) x) (od.nth (M[k]?.getD []) x - les (M[k]?.getD []))) := Lib.hid rfl
                have HFs : Hid (∀ q, (wr.drewN q).cell? ⟨w.heap.size, k, none⟩ = some (.int .i64 (les (M[k]?.getD []))) ∧ (wr.drewN q).cell? ⟨b, o + k, none⟩ = some (.slice (some ⟨b2, o2, none⟩) C ck) ∧ (wr.drewN q).cell? ⟨b2, o2 + x, none⟩ = some (.int .i64 (od.nth (M[k]?.getD []) x))) := Lib.hid fun q => ⟨by rw [← el]; exact (HR.out.dn q).cell k (by omega), m1, m3⟩
                have HDn := Lib.hid (fun q => HR.out.dn q)
                have k1 : (k : Int) < (R : Int) := by omega
                have k0 : (0 : Int) ≤ (k : Int) := by omega
                have k30 : (k : Int) < 30 := by omega
                have dv := decide_eq_true v0
                clear m2 el HR
                generalize od.nth (M[k]?.getD []) x = v at *
                generalize les (M[k]?.getD []) = y at *
                generalize clr M x k = l at *
                have wv : IntKind.i64.wrap (v - y) = v - y := by rw [IntKind.wrap_i64]; omega
                by_cases q1 : l < 0
                · have d1 := decide_eq_true q1
                  have HV := Lib.hid (show stp l v (v - y) = v - y from by unfold stp; rw [if_pos ⟨v0, .inl q1⟩])
                  go_wp2
                  go_quiet (fail)
                  rename_i nq
                  obtain ⟨l1', m1', m3'⟩ := HFs.out nq
                  go_wp2
                  go_quiet (fail)
                  go_wp2
                  go_roundw
                  case rel => exact ⟨k + 1, by omega, by rw [HN.out, HV.out], by go_num, Lib.hid (HDn.out _)⟩
                  case measure => simp [intOf]; omega
                · have d1 := decide_eq_false q1
                  by_cases q2 : v - y < l
                  · have d2 := decide_eq_true q2
                    have HV := Lib.hid (show stp l v (v - y) = v - y from by unfold stp; rw [if_pos ⟨v0, .inr q2⟩])
                    go_wp2
                    go_quiet (fail)
                    rename_i nq
                    obtain ⟨l1', m1', m3'⟩ := HFs.out nq
                    go_wp2
                    go_quiet (fail)
                    go_wp2
                    go_roundw
                    case rel => exact ⟨k + 1, by omega, by rw [HN.out, HV.out], by go_num, Lib.hid (HDn.out _)⟩
                    case measure => simp [intOf]; omega
                  · have d2 := decide_eq_false q2
                    have HV := Lib.hid (show stp l v (v - y) = l from by unfold stp; rw [if_neg (by omega)])
                    go_wp2
                    go_quiet (fail)
                    go_wp2
                    go_roundw
                    case rel => exact ⟨k + 1, by omega, by rw [HN.out, HV.out], by go_num, Lib.hid (HDn.out _)⟩
                    case measure => simp [intOf]; omega
              · obtain rfl : R = k := by omega
                have hcb := clr_bd HE.out (by intro r hr; exact HCl.out r (by rw [HRR.out]; exact hr)) hxl R (by rw [← HRR.out]; exact Nat.le_refl _)
                have hsb := H2b.out x hx
                have hss : sm2 M (x + 1) = sm2 M x + max (clr M x R) 0 := by rw [HRR.out]; rfl
                have HSs := Lib.hid hss
                have xx : (x : Int) ≤ 24 := by omega
                clear hss
                generalize sm2 M x = sm at *
                generalize clr M x R = l at *
                have wr1 : IntKind.i64.wrap (sm + l) = sm + l := by rw [IntKind.wrap_i64]; omega
                have wr2 : IntKind.i64.wrap sm = sm := by rw [IntKind.wrap_i64]; omega
                by_cases ql : l < 0
                · have EY := Lib.hid (show max l 0 = 0 by omega)
                  go_wp2
                  go_roundw
                  case rel => exact ⟨x + 1, by omega, by rw [HSs.out, EY.out]; simp, by go_num, HR⟩
                  case measure => simp [intOf]; omega
                · have EY := Lib.hid (show max l 0 = l by omega)
                  go_wp2
                  go_roundw
                  case rel => exact ⟨x + 1, by omega, by rw [HSs.out, EY.out], by go_num, HR⟩
                  case measure => simp [intOf]; omega
          · obtain rfl : C = x := by omega
            have bel := Lib.hid HR.out.bel
            go_wp2
            first
              | exact ⟨by rw [HRd.out]; first | done | rfl, bel.out⟩
              | (go_ret; exact ⟨by rw [HRd.out]; first | done | rfl, bel.out⟩)
end Go.Proofs.YtlhpiikpmmlpeaaDoor.kn

/-
  knap: gain, Bound, Answer.
-/
import Derived.Test.YteoionlnnjcggaaKq
namespace Go.Proofs.Yteoionlnnjcggaa.kn
open Go.RowKit
set_option linter.unusedVariables false
/-- what the items from a place on bring at most, b of them being left -/
def gn (Wl Vl : List Int) : Nat → Nat → Int → Int
  | 0, _, _ => 0
  | b + 1, k, room => if room < nt Wl k then ((nt Vl k).toNat * room.toNat / (nt Wl k).toNat : Nat) else nt Vl k + gn Wl Vl b (k + 1) (room - nt Wl k)
theorem gn_zero (Wl Vl : List Int) (k : Nat) (room : Int) : gn Wl Vl 0 k room = 0 := rfl
theorem gn_part {Wl Vl : List Int} {b k : Nat} {room : Int} (h : room < nt Wl k) : gn Wl Vl (b + 1) k room = ((nt Vl k).toNat * room.toNat / (nt Wl k).toNat : Nat) := by
  rw [gn, if_pos h]
theorem gn_step {Wl Vl : List Int} {b k : Nat} {room : Int} (h : ¬ room < nt Wl k) : gn Wl Vl (b + 1) k room = nt Vl k + gn Wl Vl b (k + 1) (room - nt Wl k) := by
  rw [gn, if_neg h]
theorem gn_b {C : Int} {T Wl Vl : List Int} (ok : KnOk C T Wl Vl) : ∀ b k room, 0 ≤ room → room ≤ 2147483647 → k + b ≤ T.length → 0 ≤ gn Wl Vl b k room ∧ gn Wl Vl b k room ≤ 2147483647 * b
  | 0, _, _, _, _, _ => by rw [gn_zero]; omega
  | b + 1, k, room, h0, h1, hk => by
    have hw := ok.w k (by omega)
    have hv := ok.v k (by omega)
    by_cases c : room < nt Wl k
    · rw [gn_part c]
      have h3 : (nt Vl k).toNat * room.toNat / (nt Wl k).toNat ≤ (nt Vl k).toNat := Nat.div_le_of_le_mul (by rw [Nat.mul_comm]; exact Nat.mul_le_mul (by omega) (Nat.le_refl _))
      generalize (nt Vl k).toNat * room.toNat / (nt Wl k).toNat = q at *
      omega
    · rw [gn_step c]
      have ih := gn_b ok b (k + 1) (room - nt Wl k) (by omega) (by omega) (by omega)
      omega
attribute [irreducible] gn
set_option maxHeartbeats 4000000 in
theorem gain_any {p : Nat} {C : Int} {T Wl Vl : List Int} {w : World} (ok : KnOk C T Wl Vl) (h : Kn p C T Wl Vl w) (f : Nat) (hf : f ≤ T.length) (room : Int) (r0 : 0 ≤ room) (r1 : room ≤ 2147483647) :
    Calls Try.prog 31 #[.pointer (some ⟨p, 0, none⟩), .int .i64 (f : Int), .int .i64 room] w fun e w' => e = .returned (.int .i64 (gn Wl Vl (T.length - f) f room)) ∧ Below w.heap.size w w' := by
  obtain ⟨ia, ic, wa, wc, va, vc, c0, c1, c2, c3, li, lw, lv⟩ := h.cells
  have LW := Lib.hid lw
  have LV := Lib.hid lv
  have OK := Lib.hid ok
  have PS := Lib.hid (fun a b c ha hb hc hc0 W => part_small a b c ha hb hc hc0 W)
  have n2 := ok.n2
  have ll := ok.lw
  have lv2 := ok.lv
  have LL := Lib.hid (And.intro ll lv2)
  clear h li lw lv ok ll lv2
  go_enter Try.func31, Try.ntmps31
  go_wp2_with fail
  go_loop [8, 7, 2] (fun i g r => ∃ (k : Nat) (G R : Int), i = .int .i64 (k : Int) ∧ g = .int .i64 G ∧ r = .int .i64 R ∧ f ≤ k ∧ k ≤ T.length ∧ 0 ≤ R ∧ R ≤ 2147483647 ∧ 0 ≤ G ∧ G ≤ (k : Int) * 2147483647 ∧ Hid (G + gn Wl Vl (T.length - k) k R = gn Wl Vl (T.length - f) f room)) (fun i _ _ => T.length - (intOf i).toNat)
  case atStart => exact ⟨f, 0, room, rfl, rfl, rfl, Nat.le_refl _, hf, r0, r1, Int.le_refl _, by omega, Lib.hid (by omega)⟩
  case round =>
    obtain ⟨k, G, R, rfl, rfl, rfl, hfk, hk, R0, R1, G0, G1, HG⟩ := hrel
    by_cases hlt : k < T.length
    · obtain ⟨g, o, rfl, m1⟩ := LW.out.at_ k (by have := LL.out; omega)
      obtain ⟨g2, o2, rfl, m2⟩ := LV.out.at_ k (by have := LL.out; omega)
      have i2 : (k : Int) < (T.length : Int) := by omega
      have i3 : (k : Int) < (Wl.length : Int) := by have := LL.out; omega
      have i4 : (k : Int) < (Vl.length : Int) := by have := LL.out; omega
      have wb := OK.out.w k hlt
      have vb := OK.out.v k hlt
      have hb : T.length - k = (T.length - (k + 1)) + 1 := by omega
      have gb := gn_b OK.out (T.length - k) k R R0 R1 (by omega)
      by_cases hc : R < nt Wl k
      · have E := HG.out
        rw [hb, gn_part hc] at E
        rw [hb, gn_part hc] at gb
        replace E := Lib.hid E
        have PP := Lib.hid (fun W => PS.out (nt Vl k).toNat R.toNat (nt Wl k).toNat (by omega) (by omega) (by omega) (by omega) W)
        rw [show (((nt Vl k).toNat : Nat) : Int) = nt Vl k by omega, show ((R.toNat : Nat) : Int) = R by omega, show (((nt Wl k).toNat : Nat) : Int) = nt Wl k by omega] at PP
        have gb2 : 0 ≤ ((((nt Vl k).toNat * R.toNat / (nt Wl k).toNat : Nat)) : Int) ∧ ((((nt Vl k).toNat * R.toNat / (nt Wl k).toNat : Nat)) : Int) ≤ 2147483647 * 2147483647 := by
          have h2 : (nt Vl k).toNat * R.toNat ≤ 2147483647 * 2147483647 := Nat.mul_le_mul (by omega) (by omega)
          have h3 : (nt Vl k).toNat * R.toNat / (nt Wl k).toNat ≤ 2147483647 * 2147483647 := Nat.le_trans (Nat.div_le_self _ _) h2
          clear h2
          generalize (nt Vl k).toNat * R.toNat / (nt Wl k).toNat = q at *
          omega
        generalize ((((nt Vl k).toNat * R.toNat / (nt Wl k).toNat : Nat)) : Int) = Q at *
        have hs : wrap64 (G + Q) = G + Q := by unfold wrap64; omega
        clear HG hb gb PS hfk
        generalize nt Wl k = x at *
        generalize nt Vl k = y at *
        go_upto_region 6 with fail
        have S0 := And.intro c2 (And.intro c3 (And.intro m1 m2))
        have FB := Lib.hid (fun W (hb : Below w.heap.size w W) => show W.cell? ⟨p, 2, none⟩ = some (.slice (some ⟨g, o, none⟩) Wl.length wc) ∧ W.cell? ⟨p, 3, none⟩ = some (.slice (some ⟨g2, o2, none⟩) Vl.length vc) ∧ W.cell? ⟨g, o + k, none⟩ = some (.int .i64 x) ∧ W.cell? ⟨g2, o2 + k, none⟩ = some (.int .i64 y) from
          ⟨(hb.cell (p := ⟨p, 2, none⟩) (block_lt_of_cell c2)).trans c2, (hb.cell (p := ⟨p, 3, none⟩) (block_lt_of_cell c3)).trans c3, (hb.cell (p := ⟨g, o + k, none⟩) (block_lt_of_cell m1)).trans m1, (hb.cell (p := ⟨g2, o2 + k, none⟩) (block_lt_of_cell m2)).trans m2⟩)
        go_region_held3 (fun W => W.cell? ⟨p, 2, none⟩ = some (.slice (some ⟨g, o, none⟩) Wl.length wc) ∧ W.cell? ⟨p, 3, none⟩ = some (.slice (some ⟨g2, o2, none⟩) Vl.length vc) ∧ W.cell? ⟨g, o + k, none⟩ = some (.int .i64 x) ∧ W.cell? ⟨g2, o2 + k, none⟩ = some (.int .i64 y)) (first | exact S0 | exact S3) (first | (go_at_call 44; (with_reducible refine (PP.out _).mono ?_); rintro e w3 ⟨rfl, hb3⟩; have S3 := FB.out w3 (bl_tr (bl_drew w) hb3)) | fail)
        have HB3 := Lib.hid (show Below w.heap.size w w3 from bl_tr (bl_drew w) hb3)
        clear hb3 gb2 S0 S3 FB
        go_wp2
        go_ret
        exact ⟨congrArg (fun z => Ending.returned (.int .i64 z)) (hs.trans E.out), HB3.out⟩
      · have E := HG.out
        rw [hb, gn_step hc] at E
        replace E := Lib.hid (show (G + nt Vl k) + gn Wl Vl (T.length - (k + 1)) (k + 1) (R - nt Wl k) = gn Wl Vl (T.length - f) f room by omega)
        have hs : wrap64 (G + nt Vl k) = G + nt Vl k := by unfold wrap64; omega
        clear HG hb gb PS
        generalize nt Wl k = x at *
        generalize nt Vl k = y at *
        go_wp2
        go_round
        case rel => exact ⟨k + 1, G + y, R - x, by go_num, rfl, rfl, by omega, by omega, by omega, by omega, by omega, by omega, E⟩
        case measure => simp [intOf]; omega
    · obtain rfl : k = T.length := by omega
      have i2 : ¬ (T.length : Int) < (T.length : Int) := by omega
      have E := HG.out
      rw [Nat.sub_self, gn_zero, Int.add_zero] at E
      replace E := Lib.hid E
      clear HG
      go_wp2
      go_ret
      exact ⟨congrArg (fun z => Ending.returned (.int .i64 z)) E.out, Below.refl _ _⟩
/-- what is left out ahead of a place -/
def lost (Vl pl : List Int) : Nat → Int
  | 0 => 0
  | k + 1 => lost Vl pl k + (if pl.length ≤ k ∨ nt pl k = 0 then nt Vl k else 0)
theorem lost_b {C : Int} {T Wl Vl : List Int} (pl : List Int) (ok : KnOk C T Wl Vl) : ∀ k, k ≤ T.length → 0 ≤ lost Vl pl k ∧ lost Vl pl k ≤ (k : Int) * 2147483647
  | 0, _ => by show 0 ≤ (0 : Int) ∧ (0 : Int) ≤ _; omega
  | k + 1, hk => by
    have ih := lost_b pl ok k (by omega)
    have hv := ok.v k (by omega)
    show 0 ≤ lost Vl pl k + _ ∧ lost Vl pl k + _ ≤ _
    split <;> omega
/-- the bound -/
def bdv (C : Int) (T Wl Vl pl : List Int) : Int := lost Vl pl T.length - gn Wl Vl (T.length - pl.length) pl.length (rm C Wl pl pl.length)
def BdP (C : Int) (T Wl Vl pl : List Int) (w : World) (e : Ending) (w' : World) : Prop := (LeftOk C Wl pl → e = .returned (.tuple #[.int .i64 (bdv C T Wl Vl pl), .int .i64 0])) ∧ (¬ LeftOk C Wl pl → e = .returned (.tuple #[.int .i64 0, .int .i64 1])) ∧ Below w.heap.size w w'
set_option maxHeartbeats 4000000 in
theorem bound_any {p : Nat} {C : Int} {T Wl Vl pl : List Int} {v : Value} {w : World} (ok : KnOk C T Wl Vl) (h : Kn p C T Wl Vl w) (hp : Ls v pl w) (hl : pl.length ≤ 1000) :
    Calls Try.prog 12 #[.pointer (some ⟨p, 0, none⟩), v] w (BdP C T Wl Vl pl w) := by
  have LF := Lib.hid (left_any ok h hp hl)
  obtain ⟨pa, pc, rfl⟩ := hp.form
  have HK := Lib.hid h
  obtain ⟨ia, ic, wa, wc, va, vc, c0, c1, c2, c3, li, lw, lv⟩ := h.cells
  have HP := Lib.hid hp
  have LV := Lib.hid lv
  have OK := Lib.hid ok
  clear hp li lw lv ok h
  by_cases hk : LeftOk C Wl pl
  · have LF2 := Lib.hid (show Calls Try.prog 30 #[.pointer (some ⟨p, 0, none⟩), .slice pa pl.length pc] w fun e w' => e = .returned (.tuple #[.int .i64 (rm C Wl pl pl.length), .int .i64 0]) ∧ w = w' from LF.out.mono fun e w' q => ⟨q.2.1 hk, q.1⟩)
    have le := hk.le
    have r0 := hk.room
    have lw := OK.out.lw
    have r1 := rm_b pl OK.out pl.length (by omega)
    have cb := OK.out.c1
    have GA := Lib.hid (gain_any OK.out HK.out pl.length (by omega) (rm C Wl pl pl.length) r0 (by omega))
    have gb := gn_b OK.out (T.length - pl.length) pl.length (rm C Wl pl pl.length) r0 (by omega) (by omega)
    have UB := Lib.hid (fun w' (hb : Below w.heap.size w w') => show BdP C T Wl Vl pl w (.returned (.tuple #[.int .i64 (lost Vl pl T.length - gn Wl Vl (T.length - pl.length) pl.length (rm C Wl pl pl.length)), .int .i64 0])) w' from ⟨fun _ => rfl, fun g => absurd hk g, hb⟩)
    generalize rm C Wl pl pl.length = R at *
    generalize gn Wl Vl (T.length - pl.length) pl.length R = Q at *
    have GB := Lib.hid gb
    have n2 := OK.out.n2
    have lv := OK.out.lv
    have LE := Lib.hid (And.intro le lw)
    clear LF hk le r0 r1 cb gb lw HK
    go_enter Try.func12, Try.ntmps12
    go_wp2_with fail
    refine LF2.out.mono ?_; rintro e w1 ⟨rfl, rfl⟩
    go_wp2_with fail
    clear lv
    go_loop [25, 8] (fun i s => ∃ k : Nat, i = .int .i64 (k : Int) ∧ s = .int .i64 (lost Vl pl k) ∧ k ≤ T.length) (fun i _ => T.length - (intOf i).toNat)
    case atStart => exact ⟨0, rfl, rfl, Nat.zero_le _⟩
    case round =>
      obtain ⟨k, rfl, rfl, hk⟩ := hrel
      have sb := lost_b pl OK.out k hk
      by_cases hlt : k < T.length
      · obtain ⟨g2, o2, rfl, m2⟩ := LV.out.at_ k (by have := OK.out.lv; omega)
        have i2 : (k : Int) < (T.length : Int) := by omega
        have vb := OK.out.v k hlt
        have ES := Lib.hid (show lost Vl pl (k + 1) = lost Vl pl k + (if pl.length ≤ k ∨ nt pl k = 0 then nt Vl k else 0) from rfl)
        generalize lost Vl pl k = S at *
        generalize nt Vl k = y at *
        by_cases hge : pl.length ≤ k
        · have e0 := ES.out
          rw [if_pos (.inl hge)] at e0
          replace e0 := Lib.hid e0
          have d1 : decide ((pl.length : Int) ≤ (k : Int)) = true := decide_eq_true (by omega)
          have d2 : decide (pl.length ≤ k) = true := decide_eq_true hge
          have d3 : (pl.length : Int) ≤ (k : Int) := by omega
          clear ES hge
          go_wp2
          go_round
          case rel => exact ⟨k + 1, by go_num, by rw [e0.out], by omega⟩
          case measure => simp [intOf]; omega
        · obtain ⟨g, o, rfl, m1⟩ := HP.out.at_ k (by omega)
          have d1 : decide ((pl.length : Int) ≤ (k : Int)) = false := decide_eq_false (by omega)
          have d2 : decide (pl.length ≤ k) = false := decide_eq_false hge
          have d3 : ¬ (pl.length : Int) ≤ (k : Int) := by omega
          have d4 : (k : Int) < (pl.length : Int) := by omega
          generalize nt pl k = x at *
          by_cases hx : x = 0
          · have e0 := ES.out
            rw [if_pos (.inr hx)] at e0
            replace e0 := Lib.hid e0
            have b1 : (x == 0) = true := by simpa using hx
            clear ES hge hx
            go_wp2
            go_round
            case rel => exact ⟨k + 1, by go_num, by rw [e0.out], by omega⟩
            case measure => simp [intOf]; omega
          · have e0 := ES.out
            rw [if_neg (fun c => by rcases c with c | c; exact hge c; exact hx c), Int.add_zero] at e0
            replace e0 := Lib.hid e0
            have b1 : (x == 0) = false := by simpa using hx
            clear ES hge hx
            go_wp2
            go_round
            case rel => exact ⟨k + 1, by go_num, by rw [e0.out], by omega⟩
            case measure => simp [intOf]; omega
      · obtain rfl : k = T.length := by omega
        have i2 : ¬ (T.length : Int) < (T.length : Int) := by omega
        have gb := GB.out
        generalize lost Vl pl T.length = S at *
        have hs : wrap64 (S - Q) = S - Q := by unfold wrap64; omega
        clear gb
        go_wp2_with fail
        refine GA.out.mono ?_; rintro e w3 ⟨rfl, hb3⟩
        have U := Lib.hid (UB.out _ hb3)
        clear hb3 UB GA
        go_wp2
        go_ret2
        exact (show BdP C T Wl Vl pl w (.returned (.tuple #[.int .i64 (wrap64 (S - Q)), .int .i64 0])) w3 from by rw [hs]; exact U.out)
  · have LF2 := Lib.hid (show Calls Try.prog 30 #[.pointer (some ⟨p, 0, none⟩), .slice pa pl.length pc] w fun e w' => e = .returned (.tuple #[.int .i64 0, .int .i64 1]) ∧ w = w' from LF.out.mono fun e w' q => ⟨q.2.2 hk, q.1⟩)
    have U := Lib.hid (show BdP C T Wl Vl pl w (.returned (.tuple #[.int .i64 0, .int .i64 1])) w from ⟨fun g => absurd g hk, fun _ => rfl, Below.refl _ _⟩)
    clear LF hk
    go_enter Try.func12, Try.ntmps12
    go_wp2_with fail
    refine LF2.out.mono ?_; rintro e w1 ⟨rfl, rfl⟩
    go_wp2
    go_ret2
    exact U.out
end Go.Proofs.Yteoionlnnjcggaa.kn

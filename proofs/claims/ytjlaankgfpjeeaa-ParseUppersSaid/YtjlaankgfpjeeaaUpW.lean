/-
  The walk of kurganlaw06.ParseUppers.
-/
import Derived.Test.YtjlaankgfpjeeaaUpL
import Derived.Test.YtjlaankgfpjeeaaInRefA
namespace Go.Proofs.Ytjlaankgfpjeeaa
open Go.RowKit
open ip (chk chk_zero Src RSrc Ints Rws IntsO RwsO)
set_option linter.unusedVariables false
theorem src_len {W : World} {a : Option Addr} {n c : Nat} {l : List Int} (h : Src W a n c l) : l.length ≤ 70 := by have := h.1; omega
theorem rsrc_len {W : World} {a : Option Addr} {n c : Nat} {l : List (List Int)} (h : RSrc W a n c l) : l.length ≤ 30 := by have := h.1; omega
theorem write_int (x : Int) (h0 : 0 ≤ x) (h1 : x ≤ 2147483647) (W : World) : Calls Try.prog 7 #[.int .i64 x] W fun e w' => e = .returned (.string (dec x.toNat)) ∧ Below W.heap.size W w' := by
  obtain ⟨n, rfl⟩ : ∃ n : Nat, x = n := ⟨x.toNat, by omega⟩
  have := refwrite_nat n (by omega) W
  simpa using this
theorem dec_size (u : Nat) (h : u ≤ 2147483647) : (dec u).size ≤ 10 := by
  have p10 : (10 : Nat) ^ 10 = 10000000000 := by decide
  have := dec_small 9 u (by omega)
  rw [dec_eq, mk_size]; exact this
theorem dec_list (u : Nat) : (dec u).data.toList = Lib.decDigits u := by rw [dec_eq]
theorem bt_one (us : List Nat) (x : Nat) : bt ((us ++ [x]).map Pc.nu) = bt (us.map Pc.nu) ++ (32 :: Lib.decDigits x) := by
  rw [List.map_append, bt_app]
  show _ ++ (32 :: (Lib.decDigits x ++ [])) = _
  rw [List.append_nil]
theorem utx_one (n : Nat) (us : List Nat) (x : Nat) : utx n (us ++ [x]) = utx n us ++ (32 :: Lib.decDigits x) := by
  unfold utx
  have e : (Pc.nu n :: .wd upL :: (us ++ [x]).map Pc.nu) = (Pc.nu n :: .wd upL :: us.map Pc.nu) ++ [Pc.nu x] := by simp
  rw [e, bt_app, ← List.append_assoc]
  show _ ++ (32 :: (Lib.decDigits x ++ [])) = _
  rw [List.append_nil]
/-- the problem's copy stored into its box -/
theorem store_up {w w1 : World} {b g1 g2 k1 k2 cc : Nat} {ca : Option Addr} {K N C : Int} {wl vl : List Int} {cl : List (List Int)} {B : Nat} {v0 v1 v2 v3 v4 v5 : Value}
    (hw : w.heap.size ≤ b) (q : w1.heap[b]? = some (.cells #[v0, v1, v2, v3, v4, v5] 25 (0, 0))) (hb : Below w.heap.size w w1) (i1 : ip.kc.IO B w1 g1 k1 wl) (i2 : ip.kc.IO B w1 g2 k2 vl) (rw : ip.kc.RwsC B w1 ca cc cl)
    (X : World) (hX : X = (((((w1.setCell ⟨b, 0, none⟩ (.int .i64 K)).setCell ⟨b, 1, none⟩ (.int .i64 N)).setCell ⟨b, 2, none⟩ (.int .i64 C)).setCell ⟨b, 3, none⟩ (.slice (some ⟨g1, 0, none⟩) wl.length k1)).setCell ⟨b, 4, none⟩ (.slice (some ⟨g2, 0, none⟩) vl.length k2)).setCell ⟨b, 5, none⟩ (.slice ca cl.length cc)) :
    X.heap[b]? = some (.cells #[.int .i64 K, .int .i64 N, .int .i64 C, .slice (some ⟨g1, 0, none⟩) wl.length k1, .slice (some ⟨g2, 0, none⟩) vl.length k2, .slice ca cl.length cc] 25 (0, 0)) ∧ Ints X (some ⟨g1, 0, none⟩) wl ∧ Ints X (some ⟨g2, 0, none⟩) vl ∧ Rws X ca cl ∧ Below w.heap.size w X := by
  subst hX
  have XO : ∀ k, k ≠ b → _ = _ := fun k hk => ip.six_other (w := w1) hk (.int .i64 K) (.int .i64 N) (.int .i64 C) (.slice (some ⟨g1, 0, none⟩) wl.length k1) (.slice (some ⟨g2, 0, none⟩) vl.length k2) (.slice ca cl.length cc)
  exact ⟨ip.six q _ _ _ _ _ _, (i1.1.same (XO _ (i1.1.ne q (by decide)))).ints, (i2.1.same (XO _ (i2.1.ne q (by decide)))).ints, (rw.rwsO.other q XO).rws, ip.six_below hb hw _ _ _ _ _ _⟩
set_option maxRecDepth 100000 in
set_option maxHeartbeats 2000000 in
theorem upp_none (kd N C : Int) (wl vl : List Int) (cl : List (List Int)) (wa va ca : Option Addr) (wn vn cn wc vc cc : Nat) (w : World) (h1 : Src w wa wn wc wl) (h2 : Src w va vn vc vl) (h3 : RSrc w ca cn cc cl) (er : Int) (hz : chk kd N C wl vl cl = er) (hne : er ≠ 0 ∨ (er = 0 ∧ kd ≠ 3)) :
    Calls Try.prog 3 #[.agg #[.int .i64 kd, .int .i64 N, .int .i64 C, .slice wa wn wc, .slice va vn vc, .slice ca cn cc]] w fun e w' => e = .returned (.bool true) ∧ Below w.heap.size w w' := by
  have bA : Below w.heap.size w (w.alloc (.cells #[.int .i64 kd, .int .i64 N, .int .i64 C, .slice wa wn wc, .slice va vn vc, .slice ca cn cc] 25)) := bl_al (Below.refl _ _) _
  have HC := Lib.hid (ip.kc.refcopy_any kd N C wl vl cl wa va ca wn vn cn wc vc cc _ (h1.keep bA) (h2.keep bA) (h3.keep bA))
  have HB := Lib.hid bA
  have l1 := src_len h1
  have l2 := src_len h2
  have l3 := rsrc_len h3
  have HP5 := Lib.hid parses_any
  clear h1 h2 h3 bA
  go_enter Try.func3, Try.ntmps3
  go_wp2_with fail
  refine HC.out.mono ?_; rintro e w1 ⟨g1, k1, g2, k2, ca', cc', rfl, hb, i1, i2, rw⟩
  have q0 : w1.heap[w.heap.size]? = some (.cells #[.int .i64 kd, .int .i64 N, .int .i64 C, .slice wa wn wc, .slice va vn vc, .slice ca cn cc] 25 (0, 0)) := (hb.block _ (by simp)).trans (heap_alloc_new w _)
  have Q := Lib.hid q0
  have BX := Lib.hid (store_up (k1 := k1) (k2 := k2) (cc := cc') (K := kd) (N := N) (C := C) (Nat.le_refl _) q0 (bl_tr HB.out hb) i1 i2 rw _ rfl)
  clear hb i1 i2 rw q0 HC HB
  obtain ⟨c0, c1, c2, c3, c4, c5⟩ := ip.box6 Q.out
  have cf := ip.fr6 Q.out
  have hs := lt_blk Q.out
  go_upto_region 2 with fail
  clear c0 c1 c2 c3 c4 c5 cf
  generalize ((((((w1.setCell ⟨w.heap.size, 0, none⟩ (.int .i64 kd)).setCell ⟨w.heap.size, 1, none⟩ (.int .i64 N)).setCell ⟨w.heap.size, 2, none⟩ (.int .i64 C)).setCell ⟨w.heap.size, 3, none⟩ (.slice (some ⟨g1, 0, none⟩) wl.length k1)).setCell ⟨w.heap.size, 4, none⟩ (.slice (some ⟨g2, 0, none⟩) vl.length k2)).setCell ⟨w.heap.size, 5, none⟩ (.slice ca' cl.length cc')) = X at BX ⊢
  clear Q hs
  obtain ⟨c0, c1, c2, c3, c4, c5⟩ := ip.box6 BX.out.1
  have HR := Lib.hid (ip.ref_any kd N C wl vl cl (some ⟨g1, 0, none⟩) (some ⟨g2, 0, none⟩) ca' k1 k2 cc')
  rw [hz] at HR
  have d1 : (er != 0) = true ∨ ((er != 0) = false ∧ (kd != 3) = true) := by
    rcases hne with h | ⟨h, h'⟩
    · exact .inl (by simpa using h)
    · exact .inr ⟨by rw [h]; rfl, by simpa using h'⟩
  clear hz hne
  rcases d1 with d1 | ⟨d1, d2⟩
  all_goals
    go_wp2_with fail
    refine (HP5.out _).mono ?_; rintro e w3 ⟨rfl, hb3⟩
    have B3 := Lib.hid (BX.out.2.2.2.2.trans (hb3.mono BX.out.2.2.2.2.size))
    have bx3 := (hb3.block _ (lt_blk BX.out.1)).trans BX.out.1
    have H3 := Lib.hid (HR.out w3 (BX.out.2.1.keep hb3) (BX.out.2.2.1.keep hb3) (BX.out.2.2.2.1.keep hb3) (by omega) (by omega) (by omega))
    clear c0 c1 c2 c3 c4 c5 BX HR hb3
    obtain ⟨c0, c1, c2, c3, c4, c5⟩ := ip.box6 bx3
    go_wp2_with fail
    refine H3.out.mono ?_; rintro e w4 ⟨rfl, hb4⟩
    have B4 := Lib.hid (B3.out.trans (hb4.mono B3.out.size))
    have bx4 := (hb4.block _ (lt_blk bx3)).trans bx3
    clear c0 c1 c2 c3 c4 c5 hb4 B3 H3 bx3
    obtain ⟨c0, c1, c2, c3, c4, c5⟩ := ip.box6 bx4
    clear bx4
    go_wp2_with fail
    refine (HP5.out _).mono ?_; rintro e w5 ⟨rfl, hb5⟩
    have B5 := Lib.hid (B4.out.trans (hb5.mono B4.out.size))
    clear hb5 B4 HP5 c0 c1 c2 c3 c4 c5
    go_wp2
    go_ret
    exact ⟨rfl, B5.out⟩
theorem UM.drew {bx gc : Nat} {gs cj : Nat → Nat} {n : Nat} {K C : Int} {v3 v4 : Value} {cc : Nat} {Mx : Nat → Nat → Int} {W : World} (h : UM bx gc gs cj n K C v3 v4 cc Mx W) : UM bx gc gs cj n K C v3 v4 cc Mx W.drew := ⟨h.box, h.top, h.rows, h.inj, h.n24⟩
/-- the table, once the columns up to a and of row a up to b are mirrored -/
def Mm (cl : List (List Int)) (a b i j : Nat) : Int := if j < i ∧ (j < a ∨ (j = a ∧ i < b)) then (cl[j]?.getD [])[i]?.getD 0 else (cl[i]?.getD [])[j]?.getD 0
theorem Uw_bd {n : Nat} {C : Int} {cl : List (List Int)} (h : Fm 3 n C [] [] cl) : ∀ a b, a < n → b ≤ n → ∀ m ∈ Uw cl n a ++ Rw cl a b, m ≤ 2147483647 := by
  obtain ⟨a1, a2, a3, a4, a5, a6⟩ := h.rs (by decide)
  have rb : ∀ a b, a < n → b ≤ n → ∀ m ∈ Rw cl a b, m ≤ 2147483647 := fun a b ha hb m hm => by
    unfold Rw at hm
    obtain ⟨k, hk, rfl⟩ := List.mem_map.1 hm
    have hk := List.mem_range.1 hk
    have := ((a6 a ha).2 (a + 1 + k) (by omega)).1
    omega
  have ub : ∀ a, a ≤ n → ∀ m ∈ Uw cl n a, m ≤ 2147483647 := by
    intro a
    induction a with
    | zero => intro _ m hm; simp [Uw] at hm
    | succ a ih =>
      intro ha m hm
      rcases List.mem_append.1 (show m ∈ Uw cl n a ++ Rw cl a n from hm) with q | q
      · exact ih (by omega) m q
      · exact rb a n (by omega) (Nat.le_refl _) m q
  intro a b ha hb m hm
  rcases List.mem_append.1 hm with q | q
  · exact ub a (by omega) m q
  · exact rb a b ha hb m q
theorem rs_sq (n : Nat) : ∀ a, rs n a ≤ a * n
  | 0 => by show 0 ≤ _; omega
  | a + 1 => by
    have := rs_sq n a
    show rs n a + (n - 1 - a) ≤ (a + 1) * n
    rw [Nat.succ_mul]; omega
theorem utx_len {n : Nat} (hn : n ≤ 24) {us : List Nat} (h : ∀ m ∈ us, m ≤ 2147483647) : (utx n us).length ≤ 30 + 11 * us.length := by
  have h1 := bt_len us h
  have p2 : (10 : Nat) ^ 2 = 100 := by decide
  have h2 := dec_small 1 n (by omega)
  unfold utx
  show (tspL ++ (32 :: (Lib.decDigits n ++ (32 :: (upL ++ bt (us.map Pc.nu)))))).length ≤ _
  simp [tspL, upL]; omega
theorem utx_room {n : Nat} {C : Int} {cl : List (List Int)} (h : Fm 3 n C [] [] cl) {a b : Nat} (ha : a < n) (hb : b ≤ n) : (utx n (Uw cl n a ++ Rw cl a b)).length ≤ 10000 := by
  obtain ⟨a1, _⟩ := h.rs (by decide)
  have h1 := utx_len a1 (Uw_bd h a b ha hb)
  have h2 := rs_sq n a
  have h3 : a * n ≤ 24 * 24 := Nat.mul_le_mul (by omega) a1
  rw [List.length_append, Uw_len, Rw_len] at h1
  omega
set_option maxRecDepth 100000 in
set_option maxHeartbeats 4000000 in
theorem upp_yes (C : Int) (n : Nat) (cl : List (List Int)) (wa va ca : Option Addr) (wn vn cn wc vc cc : Nat) (w : World) (h1 : Src w wa wn wc []) (h2 : Src w va vn vc []) (h3 : RSrc w ca cn cc cl) (hF : Fm 3 n C [] [] cl) :
    Calls Try.prog 3 #[.agg #[.int .i64 3, .int .i64 n, .int .i64 C, .slice wa wn wc, .slice va vn vc, .slice ca cn cc]] w fun e w' => e = .returned (.bool true) ∧ Below w.heap.size w w' := by
  have HZ := Lib.hid hF.chk
  obtain ⟨a1, a2, a3, a4, a5, a6⟩ := hF.rs (by decide)
  have n1 := hF.n1
  have HFR := Lib.hid (show cl.length = n ∧ (∀ a, a < n → (cl[a]?.getD []).length = n) ∧ 1 ≤ n ∧ n ≤ 24 from ⟨a5, fun a ha => (a6 a ha).1, n1, a1⟩)
  have HCL := Lib.hid (fun a b (ha : a < n) (hb : b < n) => ((a6 a ha).2 b hb).1)
  have HRM := Lib.hid (fun (a b : Nat) (ha : a < n) (hb : b ≤ n) => utx_room hF ha hb)
  have HWR := Lib.hid write_int
  have HP8 := Lib.hid (fun (S : ByteArray) (hS : S.data.toList = utx n (Uw cl n n)) (hz : S.size ≤ 10000) (W : World) => by
    have e : S = ⟨(utx n (Uw cl n n)).toArray⟩ := by apply ByteArray.ext; rw [← hS]
    have q := parse_any S W
    have hp : PXX S = .ok 3 n 0 [] [] (tab n (mir cl)) := by
      unfold PXX
      rw [if_neg (by omega), e]
      exact upp_px hF
    rw [hp] at q
    exact q)
  have HMF : Hid (Fm 3 n 0 [] [] (tab n (mir cl))) := Lib.hid (tab_fm (.inr rfl) n1 a1 fun a b ha hb => by
    unfold mir
    split
    · exact ⟨((a6 a ha).2 b hb).1, fun _ e => ((a6 a ha).2 b hb).2 rfl e⟩
    · exact ⟨((a6 b hb).2 a ha).1, fun _ e => by omega⟩)
  have hl24 : cl.length ≤ 24 := by omega
  have HC0 := Lib.hid a2
  clear hF a2 a3 a4 a5 a6
  have bA : Below w.heap.size w (w.alloc (.cells #[.int .i64 3, .int .i64 n, .int .i64 C, .slice wa wn wc, .slice va vn vc, .slice ca cn cc] 25)) := bl_al (Below.refl _ _) _
  have HC := Lib.hid (ip.kc.refcopy_any 3 n C [] [] cl wa va ca wn vn cn wc vc cc _ (h1.keep bA) (h2.keep bA) (h3.keep bA))
  have HB := Lib.hid bA
  have l1 := src_len h1
  have l2 := src_len h2
  have l3 := rsrc_len h3
  have HP5 := Lib.hid parses_any
  clear h1 h2 h3 bA
  go_enter Try.func3, Try.ntmps3
  go_wp2_with fail
  refine HC.out.mono ?_; rintro e w1 ⟨g1, k1, g2, k2, ca', cc', rfl, hb, i1, i2, rw⟩
  have q0 : w1.heap[w.heap.size]? = some (.cells #[.int .i64 3, .int .i64 n, .int .i64 C, .slice wa wn wc, .slice va vn vc, .slice ca cn cc] 25 (0, 0)) := (hb.block _ (by simp)).trans (heap_alloc_new w _)
  have Q := Lib.hid q0
  have BX := Lib.hid (store_up (k1 := k1) (k2 := k2) (cc := cc') (K := 3) (N := n) (C := C) (Nat.le_refl _) q0 (bl_tr HB.out hb) i1 i2 rw _ rfl)
  simp only [List.length_nil] at BX
  have UMX := Lib.hid (um_start (w := w) (K := 3) (C := C) (g1 := g1) (g2 := g2) (k1 := k1) (k2 := k2) HFR.out q0 rw rfl)
  clear hb i1 i2 rw q0 HC HB
  obtain ⟨c0, c1, c2, c3, c4, c5⟩ := ip.box6 Q.out
  have cf := ip.fr6 Q.out
  have hs := lt_blk Q.out
  go_upto_region 2 with fail
  clear c0 c1 c2 c3 c4 c5 cf
  generalize ((((((w1.setCell ⟨w.heap.size, 0, none⟩ (.int .i64 3)).setCell ⟨w.heap.size, 1, none⟩ (.int .i64 n)).setCell ⟨w.heap.size, 2, none⟩ (.int .i64 C)).setCell ⟨w.heap.size, 3, none⟩ (.slice (some ⟨g1, 0, none⟩) 0 k1)).setCell ⟨w.heap.size, 4, none⟩ (.slice (some ⟨g2, 0, none⟩) 0 k2)).setCell ⟨w.heap.size, 5, none⟩ (.slice ca' cl.length cc')) = X at BX UMX ⊢
  clear Q hs
  obtain ⟨gc, gs, cj, rfl, U0, hBg⟩ := UMX.out
  have HBg := Lib.hid hBg
  have HR := Lib.hid (ip.ref_any 3 n C [] [] cl (some ⟨g1, 0, none⟩) (some ⟨g2, 0, none⟩) (some ⟨gc, 0, none⟩) k1 k2 cc')
  rw [HZ.out] at HR
  have U := Lib.hid U0
  clear U0 UMX hBg HZ
  obtain ⟨c0, c1, c2, c3, c4, c5⟩ := ip.box6 U.out.box
  go_wp2_with fail
  refine (HP5.out _).mono ?_; rintro e w3 ⟨rfl, hb3⟩
  have B3 := Lib.hid (BX.out.2.2.2.2.trans (hb3.mono BX.out.2.2.2.2.size))
  have U3 := Lib.hid (U.out.keep hb3)
  have H3 := Lib.hid (HR.out w3 (BX.out.2.1.keep hb3) (BX.out.2.2.1.keep hb3) (BX.out.2.2.2.1.keep hb3) (by simp) (by simp) (by omega))
  clear c0 c1 c2 c3 c4 c5 BX HR hb3 U HP5
  rw [HFR.out.1] at H3
  obtain ⟨c0, c1, c2, c3, c4, c5⟩ := ip.box6 U3.out.box
  go_wp2_with fail
  refine H3.out.mono ?_; rintro e w4 ⟨rfl, hb4⟩
  have B4 := Lib.hid (B3.out.trans (hb4.mono B3.out.size))
  have U4 := Lib.hid (U3.out.keep hb4)
  clear c0 c1 c2 c3 c4 c5 hb4 B3 H3 U3
  obtain ⟨c0, c1, c2, c3, c4, c5⟩ := ip.box6 U4.out.box
  go_wp2_with fail
  refine (HWR.out n (by omega) (by omega) _).mono ?_; rintro e w5 ⟨rfl, hb5⟩
  have B5 := Lib.hid (B4.out.trans (hb5.mono B4.out.size))
  have U5 := Lib.hid (U4.out.keep hb5)
  clear c0 c1 c2 c3 c4 c5 hb5 B4 U4
  have hdn : ((n : Int).toNat) = n := by simp
  rw [hdn]
  obtain ⟨D, hD⟩ : ∃ D, D = dec n := ⟨_, rfl⟩
  have dz := dec_size n (by omega)
  rw [← hD] at dz ⊢
  have S0 : Hid (((⟨#[84, 83, 80, 32]⟩ : ByteArray) ++ D ++ ⟨#[32, 85, 80, 80, 69, 82]⟩).data.toList = utx n (Uw cl n 0)) := Lib.hid (by
    rw [ByteArray.data_append, ByteArray.data_append, hD, dec_eq]
    show _ = tspL ++ (32 :: (Lib.decDigits n ++ (32 :: (upL ++ []))))
    simp [tspL, upL])
  have z0 : ((⟨#[84, 83, 80, 32]⟩ : ByteArray) ++ D ++ ⟨#[32, 85, 80, 80, 69, 82]⟩).size ≤ 10000 := by
    rw [ByteArray.size_append, ByteArray.size_append]
    show 4 + D.size + 6 ≤ _
    omega
  clear hD hdn
  have hc1 : ¬ 9223372036854775807 < 4 + D.size := by omega
  have hc2 : ¬ 9223372036854775807 < 4 + D.size + 6 := by omega
  go_upto_region 5 with fail
  generalize (⟨#[84, 83, 80, 32]⟩ : ByteArray) ++ D ++ ⟨#[32, 85, 80, 80, 69, 82]⟩ = T0 at S0 z0 ⊢
  clear hc1 hc2 dz
  have U6 := Lib.hid (U5.out.congr (Mx' := Mm cl 0 0) (fun a b _ _ => by unfold Mm; rw [if_neg (by omega)]))
  clear U5
  have BW : Hid (Below w.heap.size w w5) := B5
  have HL : Hid (∀ (wr : World) (k : Nat) (v : Value), Below w.heap.size w wr → k < n → ∀ j, Below w.heap.size w (wr.setCell ⟨gs k, j, none⟩ v)) := Lib.hid fun wr k v hb hk j => hb.setCell (p := ⟨gs k, j, none⟩) (Nat.le_trans (by simp) (HBg.out k hk)) v
  clear B5 HBg
  go_wp2
  go_loopw [3, 4] (fun sv av wr => ∃ (a : Nat) (S : ByteArray), a ≤ n ∧ sv = .string S ∧ av = .int .i64 (a : Int) ∧ Hid (S.data.toList = utx n (Uw cl n a)) ∧ S.size ≤ 10000 ∧ Hid (UM w.heap.size gc gs cj n 3 C (.slice (some ⟨g1, 0, none⟩) 0 k1) (.slice (some ⟨g2, 0, none⟩) 0 k2) cc' (Mm cl a 0) wr) ∧ Hid (Below w.heap.size w wr)) (fun _ av _ => n - (intOf av).toNat)
  case atStart => exact ⟨0, T0, by omega, rfl, rfl, S0, z0, U6, BW⟩
  case round =>
    clear S0 z0 U6 BW
    obtain ⟨a, S, ha, rfl, rfl, HS, zS, HU, HB⟩ := hrel
    obtain ⟨c0, c1, c2, c3, c4, c5⟩ := ip.box6 HU.out.box
    by_cases hal : a < n
    · have q1 : (a : Int) < (n : Int) := by omega
      have q2 : (0 : Int) ≤ (a : Int) := by omega
      have HU1 : Hid (UM w.heap.size gc gs cj n 3 C (.slice (some ⟨g1, 0, none⟩) 0 k1) (.slice (some ⟨g2, 0, none⟩) 0 k2) cc' (Mm cl a (a + 1)) wr) := Lib.hid (HU.out.congr fun i j _ _ => by
        unfold Mm
        by_cases c : j < i ∧ (j < a ∨ (j = a ∧ i < 0))
        · rw [if_pos c, if_pos ⟨c.1, by omega⟩]
        · rw [if_neg c, if_neg (by omega)])
      have HS1 : Hid (S.data.toList = utx n (Uw cl n a ++ Rw cl a (a + 1))) := Lib.hid (by
        rw [HS.out]; unfold Rw; rw [show a + 1 - a - 1 = 0 by omega]; simp)
      clear HU HS ha
      go_wp2
      clear c0 c1 c2 c3 c4 c5
      go_loopw [3, 5] (fun sv bv wr2 => ∃ (b : Nat) (S2 : ByteArray), a + 1 ≤ b ∧ b ≤ n ∧ sv = .string S2 ∧ bv = .int .i64 (b : Int) ∧ Hid (S2.data.toList = utx n (Uw cl n a ++ Rw cl a b)) ∧ S2.size ≤ 10000 ∧ Hid (UM w.heap.size gc gs cj n 3 C (.slice (some ⟨g1, 0, none⟩) 0 k1) (.slice (some ⟨g2, 0, none⟩) 0 k2) cc' (Mm cl a b) wr2) ∧ Hid (Below w.heap.size w wr2)) (fun _ bv _ => n - (intOf bv).toNat)
      case atStart => exact ⟨a + 1, S, by omega, by omega, rfl, by go_num, HS1, zS, HU1, HB⟩
      case round =>
        clear HS1 zS HU1 HB
        obtain ⟨b, S2, hab, hb, rfl, rfl, HS2, zS2, HU2, HB2⟩ := hrel
        obtain ⟨c0, c1, c2, c3, c4, c5⟩ := ip.box6 HU2.out.box
        by_cases hbn : b < n
        · have q3 : (b : Int) < (n : Int) := by omega
          have q4 : (0 : Int) ≤ (b : Int) := by omega
          obtain ⟨x, hx⟩ : ∃ x, x = (cl[a]?.getD [])[b]?.getD 0 := ⟨_, rfl⟩
          have xb := HCL.out a b hal hbn
          rw [← hx] at xb
          have r1 := HU2.out.cells.1 a hal
          have e1 := (HU2.out.cells.2 a b hal hbn).1
          have hM : Mm cl a b a b = x := by unfold Mm; rw [if_neg (by omega), hx]
          rw [hM] at e1
          have HWx := Lib.hid (HWR.out x xb.1 xb.2)
          have hcat1 : ¬ 9223372036854775807 < S2.size + 1 := by omega
          have HXX := Lib.hid (And.intro hx hM)
          clear hx hM
          go_wp2_with fail
          refine (HWx.out _).mono ?_; rintro e w6 ⟨rfl, hb6⟩
          have U7 := Lib.hid (HU2.out.keep hb6)
          have B7 := Lib.hid (HB2.out.trans (hb6.mono HB2.out.size))
          obtain ⟨D2, hD2⟩ : ∃ D2, D2 = dec x.toNat := ⟨_, rfl⟩
          have dz2 := dec_size x.toNat (by omega)
          rw [← hD2] at dz2 ⊢
          have HS3 : Hid ((S2 ++ ⟨#[32]⟩ ++ D2).data.toList = utx n (Uw cl n a ++ Rw cl a (b + 1))) := Lib.hid (by
            rw [Rw_succ cl (show a < b by omega), ← List.append_assoc, utx_one, ← HS2.out, ← HXX.out.1, ByteArray.data_append, ByteArray.data_append, hD2, dec_eq]
            simp)
          have zS3 : (S2 ++ (⟨#[32]⟩ : ByteArray) ++ D2).size ≤ 10000 := by
            have h := HRM.out a (b + 1) hal (by omega)
            rw [← HS3.out] at h
            simp at h
            rw [ByteArray.size_append, ByteArray.size_append]
            show S2.size + 1 + D2.size ≤ 10000
            omega
          clear hb6 hD2 HU2 HB2 HWx c0 c1 c2 c3 c4 c5 r1 e1 HS2
          have hcat2 : ¬ 9223372036854775807 < S2.size + 1 + D2.size := by omega
          go_upto_region 12 with fail
          generalize S2 ++ (⟨#[32]⟩ : ByteArray) ++ D2 = S3 at HS3 zS3 ⊢
          clear hcat1 hcat2 dz2 zS2
          have Ud := Lib.hid U7.out.drew
          have U8 := Lib.hid (Ud.out.set hbn hal x)
          have d5 := (ip.box6 Ud.out.box).2.2.2.2.2
          have da := Ud.out.cells.1 a hal
          have db := Ud.out.cells.1 b hbn
          have dx := (Ud.out.cells.2 a b hal hbn).1
          have c6 := (Ud.out.cells.2 b a hbn hal).1
          have f6 := (Ud.out.cells.2 b a hbn hal).2
          rw [HXX.out.2] at dx
          have g5 := (ip.box6 U8.out.box).2.2.2.2.2
          have ga := U8.out.cells.1 a hal
          have gb := U8.out.cells.1 b hbn
          have gx := (U8.out.cells.2 a b hal hbn).1
          have hx2 : (if a = b ∧ b = a then x else Mm cl a b a b) = x := by rw [if_neg (by omega)]; exact HXX.out.2
          rw [hx2] at gx
          have U9 := Lib.hid (U8.out.congr (Mx' := Mm cl a (b + 1)) (fun i j _ _ => by
            unfold Mm
            by_cases c : i = b ∧ j = a
            · rw [if_pos c, if_pos ⟨by omega, by omega⟩, HXX.out.1, c.1, c.2]
            · rw [if_neg c]
              by_cases c2 : j < i ∧ (j < a ∨ (j = a ∧ i < b))
              · rw [if_pos c2, if_pos ⟨c2.1, by omega⟩]
              · rw [if_neg c2, if_neg (by omega)]))
          have B9 := Lib.hid (HL.out _ b (.int .i64 x) (show Below w.heap.size w w6.drew from B7.out.drew) hbn a)
          clear hx2 U8 Ud U7 B7
          go_wp2
          go_region_held3 (fun w' => w'.cell? ⟨w.heap.size, 5, none⟩ = some (.slice (some ⟨gc, 0, none⟩) n cc') ∧ w'.cell? ⟨gc, a, none⟩ = some (.slice (some ⟨gs a, 0, none⟩) n (cj a)) ∧ w'.cell? ⟨gc, b, none⟩ = some (.slice (some ⟨gs b, 0, none⟩) n (cj b)) ∧ w'.cell? ⟨gs a, b, none⟩ = some (.int .i64 x)) (first | exact ⟨d5, da, db, dx⟩ | exact ⟨g5, ga, gb, gx⟩)
            (fail)
          clear d5 da db dx c6 f6 g5 ga gb gx
          go_wp2
          go_roundw
          case rel => exact ⟨b + 1, S3, by omega, by omega, rfl, by go_num, HS3, zS3, U9, B9⟩
          case measure => simp [intOf]; omega
        · obtain rfl : b = n := by omega
          have q3 : ¬ (b : Int) < (b : Int) := by omega
          have U9 := Lib.hid (HU2.out.congr (Mx' := Mm cl (a + 1) 0) (fun i j hi hj => by
            unfold Mm
            by_cases c2 : j < i ∧ (j < a ∨ (j = a ∧ i < b))
            · rw [if_pos c2, if_pos ⟨c2.1, by omega⟩]
            · rw [if_neg c2, if_neg (by omega)]))
          have HS4 : Hid (S2.data.toList = utx b (Uw cl b (a + 1))) := HS2
          clear HU2 HS2
          go_wp2
          go_roundw
          case rel => exact ⟨a + 1, S2, by omega, rfl, by go_num, HS4, zS2, U9, HB2⟩
          case measure => simp [intOf]; omega
    · obtain rfl : a = n := by omega
      have q1 : ¬ (a : Int) < (a : Int) := by omega
      have U9 := Lib.hid (HU.out.congr (Mx' := mir cl) (fun i j hi hj => by
        unfold Mm mir
        by_cases c2 : i ≤ j
        · rw [if_pos c2, if_neg (by omega)]
        · rw [if_neg c2, if_pos ⟨by omega, by omega⟩]))
      have HP := Lib.hid (HP8.out S HS.out zS)
      clear HU HS HP8
      go_wp2_with fail
      refine (HP.out _).mono ?_
      rintro e w7 ⟨v, rfl, hV, hB7⟩
      obtain ⟨wb, vb, cb, wd, vd, cd, rfl, i1, i2, i3⟩ := hV.lists (by rw [tab_len]; omega)
      rw [tab_len]
      have Z0 := Lib.hid (heap_alloc_new w7 (.cells #[.int .i64 3, .int .i64 a, .int .i64 0, .slice wb 0 wd, .slice vb 0 vd, .slice cb a cd] 25))
      have bz : Below w7.heap.size w7 (w7.alloc (.cells #[.int .i64 3, .int .i64 a, .int .i64 0, .slice wb 0 wd, .slice vb 0 vd, .slice cb a cd] 25)) := bl_al (Below.refl _ _) _
      have J := Lib.hid (And.intro (i1.keep bz) (And.intro (i2.keep bz) (i3.keep bz)))
      have B8 := Lib.hid ((HB.out.trans (hB7.mono HB.out.size)).trans (bz.mono (Nat.le_trans HB.out.size hB7.size)))
      have U10 := Lib.hid ((U9.out.keep hB7).keep bz)
      clear c0 c1 c2 c3 c4 c5 U9 HB hB7 hV i1 i2 i3 bz HP
      go_upto_region 14 with fail
      generalize w7.alloc (.cells #[.int .i64 3, .int .i64 a, .int .i64 0, .slice wb 0 wd, .slice vb 0 vd, .slice cb a cd] 25) = Y at Z0 J B8 U10 ⊢
      generalize w7.heap.size = bj at *
      obtain ⟨c0, c1, c2, c3, c4, c5⟩ := ip.box6 U10.out.box
      obtain ⟨d0, d1, d2, d3, d4, d5⟩ := ip.box6 Z0.out
      have nil : ∀ (W : World) (x : Option Addr), Ints W x [] := fun W x j hj => by simp at hj
      have HQ := Lib.hid (ip.same_any true 3 a C 3 a 0 [] [] [] [] (tab a (mir cl)) (tab a (mir cl)) (by simp [HC0.out]) (some ⟨g1, 0, none⟩) (some ⟨g2, 0, none⟩) (some ⟨gc, 0, none⟩) wb vb cb k1 k2 cc' wd vd cd Y (nil _ _) (nil _ _) U10.out.rws J.out.1 J.out.2.1 J.out.2.2 (by simp) (by simp) (by rw [tab_len]; omega) (by simp) (by simp))
      rw [tab_len] at HQ
      simp only [List.length_nil] at HQ
      go_wp2_with fail
      refine HQ.out.mono ?_; rintro e w8 ⟨rfl, hb8⟩
      have Z8 := (hb8.block _ (lt_blk Z0.out)).trans Z0.out
      have HMi := Lib.hid (ip.mirror_any 3 a 0 true [] [] (tab a (mir cl)) (by
        refine ⟨fun _ => ⟨rfl, HMF.out.chk, fun r c hr hc => ?_⟩, fun _ => rfl⟩
        rw [tab_len] at hr hc
        unfold ip.at2
        rw [tab_row hr, tab_row hc, map_get0 hc, map_get0 hr]
        unfold mir
        by_cases q : r ≤ c
        · rw [if_pos q]
          by_cases q2 : c ≤ r
          · rw [if_pos q2, show r = c by omega]
          · rw [if_neg q2]
        · rw [if_neg q, if_pos (by omega)]) wb vb cb wd vd cd w8 (J.out.1.keep hb8) (J.out.2.1.keep hb8) (J.out.2.2.keep hb8) (by simp) (by simp) (by rw [tab_len]; omega))
      rw [tab_len] at HMi
      simp only [List.length_nil] at HMi
      have B9 := Lib.hid (B8.out.trans (hb8.mono B8.out.size))
      clear c0 c1 c2 c3 c4 c5 d0 d1 d2 d3 d4 d5 HQ hb8 B8 U10 J Z0
      obtain ⟨d0, d1, d2, d3, d4, d5⟩ := ip.box6 Z8
      clear Z8
      go_wp2_with fail
      refine HMi.out.mono ?_; rintro e w9 ⟨rfl, hb9⟩
      have BA := Lib.hid (B9.out.trans (hb9.mono B9.out.size))
      clear hb9 B9 HMi d0 d1 d2 d3 d4 d5
      go_wp2
      go_ret
      exact ⟨rfl, BA.out⟩
theorem upp_walk (kd N C : Int) (wl vl : List Int) (cl : List (List Int)) (wa va ca : Option Addr) (wn vn cn wc vc cc : Nat) (w : World) (h1 : Src w wa wn wc wl) (h2 : Src w va vn vc vl) (h3 : RSrc w ca cn cc cl) :
    Calls Try.prog 3 #[.agg #[.int .i64 kd, .int .i64 N, .int .i64 C, .slice wa wn wc, .slice va vn vc, .slice ca cn cc]] w fun e w' => e = .returned (.bool true) ∧ Below w.heap.size w w' := by
  by_cases hz : chk kd N C wl vl cl = 0
  · by_cases hk : kd = 3
    · subst hk
      obtain ⟨hN, hF⟩ := fm_of hz
      obtain ⟨n, rfl⟩ : ∃ n : Nat, N = n := ⟨_, hN⟩
      have hF : Fm 3 n C wl vl cl := by simpa using hF
      obtain ⟨a1, a2, a3, a4, a5, a6⟩ := hF.rs (by decide)
      subst a3 a4
      exact upp_yes C n cl wa va ca wn vn cn wc vc cc w h1 h2 h3 hF
    · exact upp_none kd N C wl vl cl wa va ca wn vn cn wc vc cc w h1 h2 h3 _ hz (.inr ⟨rfl, hk⟩)
  · exact upp_none kd N C wl vl cl wa va ca wn vn cn wc vc cc w h1 h2 h3 _ rfl (.inl hz)
end Go.Proofs.Ytjlaankgfpjeeaa

/-
  inst.Check of a problem that came in: its lists are as long as they are.
-/
import Derived.Test.YtaobaiifbmhegaaOpen
namespace Go.Proofs.Ytaobaiifbmhegaa
open Go.Joins Go.ChangeShapes Go.WideShapes Go.RowKit Go.Deep
set_option linter.unusedVariables false
/-- lists of numbers in memory, of any length -/
def RwF (W : World) (a : Option Addr) (l : List (List Int)) : Prop :=
  ∀ j, j < l.length → ∃ b o aj cj, a = some ⟨b, o, none⟩ ∧ b < W.heap.size ∧ W.cell? ⟨b, o + j, none⟩ = some (.slice aj (l[j]?.getD []).length cj) ∧ Ints W aj (l[j]?.getD [])
theorem RwF.keep {W W1 : World} {a : Option Addr} {l : List (List Int)} (h : RwF W a l) (hb : Below W.heap.size W W1) : RwF W1 a l := fun j hj => by
  obtain ⟨b, o, aj, cj, h1, h2, h3, h4⟩ := h j hj
  exact ⟨b, o, aj, cj, h1, Nat.lt_of_lt_of_le h2 hb.size, (hb.cell (p := ⟨b, o + j, none⟩) h2).trans h3, h4.keep hb⟩
theorem RwF.rws {W : World} {a : Option Addr} {l : List (List Int)} (h : RwF W a l) (hl : ∀ j, j < l.length → (l[j]?.getD []).length ≤ 1000) : Rws W a l := fun j hj => by
  obtain ⟨b, o, aj, cj, h1, h2, h3, h4⟩ := h j hj
  exact ⟨b, o, aj, cj, h1, h2, h3, h4, hl j hj⟩
theorem full_ints {W : World} {a : Option Addr} {n c : Nat} {zs : List Int} (hz : zs.length = c) (hn : n ≤ c)
    (hcell : ∀ a', a = some a' → ∀ j, j < c → W.cell? (a'.add j) = some (.int .i64 (zs.getD j 0))) (ha : a = none → c = 0) : (zs.take n).length = n ∧ Ints W a (zs.take n) := by
  have hl : (zs.take n).length = n := by rw [List.length_take]; omega
  refine ⟨hl, fun j hj => ?_⟩
  rw [hl] at hj
  cases a with
  | none => have := ha rfl; omega
  | some x =>
    obtain ⟨b, off, rfl, hb⟩ := ints_at (zs := zs) (fun i hi => hcell x rfl i (by omega)) (by omega)
    refine ⟨b, off, rfl, block_lt_of_cell (hb 0 (by omega)), ?_⟩
    rw [take_get (by rw [hl]; exact hj)]
    exact hb j (by omega)
theorem open_listF {H : Type} {enc : TypeId × Value → H} {W : World} {n : Nat} {v : Value} {y : DataW H × List MemPlace} (h : DataW.trod enc Try.prog W 0 (fun _ => true) true n 22 [v] = some y) :
    ∃ (a : Option Addr) (c : Nat) (l : List Int), v = .slice a l.length c ∧ Ints W a l ∧ l.length ≤ 9223372036854775807 := by
  rcases open_ints Try.underlying22 Try.underlying3 (by kernel_rfl) h with ⟨hcs, _⟩ | ⟨x, m, c, zs, hcs, _, hl, hm, hz, _, hcell, _⟩
  · have e : v = .slice none 0 0 := by simpa using hcs
    exact ⟨_, _, [], e, fun j hj => by simp at hj, by simp⟩
  · have e : v = .slice (some x) m c := by simpa using hcs
    simp only [if_true] at hz
    obtain ⟨q1, q2⟩ := full_ints (a := some x) hz hl (fun a' e j hj => by cases e; exact hcell j (by omega)) (fun h => by cases h)
    exact ⟨some x, c, zs.take m, by rw [q1]; exact e, q2, by rw [q1]; unfold maxLen at hm; omega⟩
theorem open_rowsF {H : Type} {enc : TypeId × Value → H} {W : World} {n : Nat} {v : Value} {y : DataW H × List MemPlace} (h : DataW.trod enc Try.prog W 0 (fun _ => true) true n 23 [v] = some y) :
    ∃ (a : Option Addr) (c : Nat) (cl : List (List Int)), v = .slice a cl.length c ∧ RwF W a cl := by
  rcases open_int_rows Try.underlying23 Try.underlying22 Try.underlying3 (by kernel_rfl) (by kernel_rfl) h with ⟨hcs, _⟩ | ⟨a, m, c, A, L, C, Z, hcs, _, hl, hm, _, hr⟩
  · have e : v = .slice none 0 0 := by simpa using hcs
    exact ⟨_, _, [], e, fun j hj => by simp at hj⟩
  · have e : v = .slice (some a) m c := by simpa using hcs
    refine ⟨_, _, (List.range m).map fun r => (Z r).take (L r), by simpa using e, fun j hj => ?_⟩
    have hj' : j < m := by simpa using hj
    obtain ⟨b, off, spot⟩ := a
    have hspot : spot = none := by simpa [Addr.add] using World.cell?_spot (hr 0 (by omega)).1
    subst hspot
    obtain ⟨r1, r2, r3, r4, _, r6, r7⟩ := hr j (by omega)
    rw [Go.WideShapes.add_plain] at r1
    obtain ⟨q1, q2⟩ := full_ints r4 r2 (fun a' e i hi => (r7 a' e).2 i hi) r6
    refine ⟨b, off, A j, C j, rfl, block_lt_of_cell r1, ?_, ?_⟩
    · rw [List.getElem?_map, List.getElem?_range hj']
      show _ = some (Value.slice (A j) ((Z j).take (L j)).length (C j))
      rw [q1]; exact r1
    · rw [List.getElem?_map, List.getElem?_range hj']
      exact q2
set_option maxRecDepth 1000000 in
theorem open_instF {H : Type} {enc : TypeId × Value → H} {W : World} {base : Nat} {v : Value} {d : DataW H} {p : List MemPlace}
    (hv : Value.okWide Try.prog W .any base 25 v) (h : DataW.Trod enc Try.prog W 0 (fun _ => true) true 25 v d p) :
    ∃ (kd N C : Int) (wa va ca : Option Addr) (wc vc cc : Nat) (wl vl : List Int) (cl : List (List Int)),
      v = .agg #[.int .i64 kd, .int .i64 N, .int .i64 C, .slice wa wl.length wc, .slice va vl.length vc, .slice ca cl.length cc] ∧ Ints W wa wl ∧ Ints W va vl ∧ RwF W ca cl := by
  obtain ⟨v0, v1, v2, v3, v4, v5, y0, y1, y2, y3, y4, y5, n, rfl, _, _, h0, h1, h2, h3, h4, h5⟩ := open_agg6 Try.underlying25 (by kernel_rfl) (by kernel_rfl) hv h
  obtain ⟨kd, e0, _⟩ := DataW.trod_int Try.underlying3 h0
  obtain ⟨N, e1, _⟩ := DataW.trod_int Try.underlying3 h1
  obtain ⟨C, e2, _⟩ := DataW.trod_int Try.underlying3 h2
  obtain ⟨wa, wc, wl, rfl, s3, _⟩ := open_listF h3
  obtain ⟨va, vc, vl, rfl, s4, _⟩ := open_listF h4
  obtain ⟨ca, cc, cl, rfl, s5⟩ := open_rowsF h5
  simp only [List.cons.injEq, and_true] at e0 e1 e2
  subst e0 e1 e2
  exact ⟨kd, N, C, wa, va, ca, wc, vc, cc, wl, vl, cl, rfl, s3, s4, s5⟩
set_option maxHeartbeats 1000000 in
theorem raw_rows (K : Int) (hK : K ≠ 1) (b : Bool) (cl : List (List Int)) (hb : b = true ↔ rowsP cl) (wa va ca : Option Addr) (wc vc cc : Nat) (w : World) (hr : RwF w ca cl) (hl : cl.length ≤ 1000) :
    Calls Try.prog 43 #[.agg #[.int .i64 K, .int .i64 cl.length, .int .i64 0, .slice wa 0 wc, .slice va 0 vc, .slice ca cl.length cc]] w
      fun e w' => e = .returned (.bool b) ∧ Below w.heap.size w w' := by
  have HR := Lib.hid hr
  have HB := Lib.hid hb
  clear hr hb
  go_enter Try.func43, Try.ntmps43
  go_wp2
  go_loop [54] (fun i => ∃ k : Nat, k ≤ cl.length ∧ i = .int .i64 k ∧ Hid (∀ j, j < k → (cl[j]?.getD []).length = cl.length)) (fun i => cl.length - (intOf i).toNat)
  case atStart => exact ⟨0, by omega, rfl, fun j hj => absurd hj (by omega)⟩
  case round =>
    obtain ⟨k, hk, rfl, HE⟩ := hrel
    by_cases hlt : k < cl.length
    · obtain ⟨b1, o, aj, cj, rfl, hb1, hc, hrow⟩ := HR.out k hlt
      have hg : ∃ g, cl[k]?.getD [] = g := ⟨_, rfl⟩
      obtain ⟨row, hrw⟩ := hg
      have HG := Lib.hid hrw
      rw [hrw] at hc hrow
      clear hrw hrow
      by_cases he : row.length = cl.length
      · have HF : Hid (∀ j, j < k + 1 → (cl[j]?.getD []).length = cl.length) := fun j hj => by
          rcases Nat.lt_or_ge j k with h | h
          · exact HE.out j h
          · obtain rfl : j = k := by omega
            rw [HG.out]; exact he
        go_wp2
        go_round
        case rel => exact ⟨k + 1, by omega, by go_num, HF⟩
        case measure => simp [intOf]; omega
      · have hbf : b = false := by
          cases b
          · rfl
          · exact absurd (HB.out.1 rfl k hlt) (by rw [HG.out]; exact he)
        subst hbf
        have he' : ¬ (row.length : Int) = (cl.length : Int) := by omega
        go_wp2
        go_ret
        exact ⟨rfl, bl_al (Below.refl _ _) _⟩
    · have hbt : b = true := HB.out.2 (fun j hj => HE.out j (by omega))
      subst hbt
      go_wp2
      go_ret
      exact ⟨rfl, bl_al (Below.refl _ _) _⟩
set_option maxHeartbeats 1000000 in
theorem raw_form (K N C : Int) (b : Bool) (wn vn : Nat) (cl : List (List Int)) (hb : b = true ↔ formP K N C wn vn cl) (wa va ca : Option Addr) (wc vc cc : Nat) (w : World) (hr : RwF w ca cl) (hl : K ≠ 1 → (cl.length : Int) = N → cl.length ≤ 1000) :
    Calls Try.prog 43 #[.agg #[.int .i64 K, .int .i64 N, .int .i64 C, .slice wa wn wc, .slice va vn vc, .slice ca cl.length cc]] w
      fun e w' => e = .returned (.bool b) ∧ Below w.heap.size w w' := by
  unfold formP at hb
  by_cases hK : K = 1
  · subst hK
    by_cases h1 : (wn : Int) = N
    · subst h1
      by_cases h2 : vn = wn
      · subst h2
        by_cases h3 : cl.length = 0
        · have hbt : b = true := hb.2 (Or.inl ⟨rfl, rfl, rfl, h3⟩)
          subst hbt
          rw [h3]
          clear hb hr
          go_enter Try.func43, Try.ntmps43
          go_wp2
          go_ret
          exact ⟨rfl, bl_al (Below.refl _ _) _⟩
        · have hbf : b = false := by
            cases b
            · rfl
            · rcases hb.1 rfl with h | h
              · exact absurd h.2.2.2 h3
              · exact absurd rfl h.1
          subst hbf
          generalize cl.length = m at *
          have h3' : ((m : Int) == 0) = false := by simp; omega
          clear hb hr
          go_enter Try.func43, Try.ntmps43
          go_wp2
          go_ret
          exact ⟨rfl, bl_al (Below.refl _ _) _⟩
      · have hbf : b = false := by
          cases b
          · rfl
          · rcases hb.1 rfl with h | h
            · exact absurd h.2.2.1 (by omega)
            · exact absurd rfl h.1
        subst hbf
        have h2' : ¬ (vn : Int) = (wn : Int) := by omega
        clear hb hr
        go_enter Try.func43, Try.ntmps43
        go_wp2
        go_ret
        exact ⟨rfl, bl_al (Below.refl _ _) _⟩
    · have hbf : b = false := by
        cases b
        · rfl
        · rcases hb.1 rfl with h | h
          · exact absurd h.2.1 h1
          · exact absurd rfl h.1
      subst hbf
      clear hb hr
      go_enter Try.func43, Try.ntmps43
      go_wp2
      go_ret
      exact ⟨rfl, bl_al (Below.refl _ _) _⟩
  · by_cases h1 : (cl.length : Int) = N
    · have hl1 := hl hK h1
      subst h1
      by_cases h2 : C = 0
      · subst h2
        by_cases h3 : wn = 0
        · subst h3
          by_cases h4 : vn = 0
          · subst h4
            exact raw_rows K hK b cl (hb.trans ⟨fun h => by
              rcases h with h | h
              · exact absurd h.1 hK
              · exact h.2.2.2.2.2, fun h => Or.inr ⟨hK, rfl, rfl, rfl, rfl, h⟩⟩) wa va ca wc vc cc w hr hl1
          · have hbf : b = false := by
              cases b
              · rfl
              · rcases hb.1 rfl with h | h
                · exact absurd h.1 hK
                · exact absurd h.2.2.2.2.1 h4
            subst hbf
            have h4' : ¬ (vn : Int) = 0 := by omega
            clear hb hr
            go_enter Try.func43, Try.ntmps43
            go_wp2
            go_ret
            exact ⟨rfl, bl_al (Below.refl _ _) _⟩
        · have hbf : b = false := by
            cases b
            · rfl
            · rcases hb.1 rfl with h | h
              · exact absurd h.1 hK
              · exact absurd h.2.2.2.1 h3
          subst hbf
          have h3' : ¬ (wn : Int) = 0 := by omega
          clear hb hr
          go_enter Try.func43, Try.ntmps43
          go_wp2
          go_ret
          exact ⟨rfl, bl_al (Below.refl _ _) _⟩
      · have hbf : b = false := by
          cases b
          · rfl
          · rcases hb.1 rfl with h | h
            · exact absurd h.1 hK
            · exact absurd h.2.2.1 h2
        subst hbf
        clear hb hr
        go_enter Try.func43, Try.ntmps43
        go_wp2
        go_ret
        exact ⟨rfl, bl_al (Below.refl _ _) _⟩
    · have hbf : b = false := by
        cases b
        · rfl
        · rcases hb.1 rfl with h | h
          · exact absurd h.1 hK
          · exact absurd h.2.1 h1
      subst hbf
      clear hb hr
      go_enter Try.func43, Try.ntmps43
      go_wp2
      go_ret
      exact ⟨rfl, bl_al (Below.refl _ _) _⟩
set_option maxHeartbeats 2000000 in
theorem check_raw (K N C : Int) (wl vl : List Int) (cl : List (List Int)) (wa va ca : Option Addr) (wc vc cc : Nat) (w : World) (hw : Ints w wa wl) (hv : Ints w va vl) (hr : RwF w ca cl) :
    Calls Try.prog 22 #[.agg #[.int .i64 K, .int .i64 N, .int .i64 C, .slice wa wl.length wc, .slice va vl.length vc, .slice ca cl.length cc]] w
      fun e w' => e = .returned (.int .i64 (chk K N C wl vl cl)) ∧ Below w.heap.size w w' := by
  have HN := Lib.hid (fun W => name_any K W)
  have bA : ∀ o, Below w.heap.size w (w.alloc o) := fun o => bl_al (Below.refl _ _) _
  by_cases hK : K < 1 ∨ 3 < K
  · have hs : nameOf K = [] := by unfold nameOf; rw [if_neg (by omega), if_neg (by omega), if_neg (by omega)]
    rw [hs] at HN
    rw [chk_kind hK]
    clear hw hv hr hs
    by_cases h1 : K = 1
    · omega
    · clear hK
      go_enter Try.func22, Try.ntmps22
      go_wp2_with fail
      refine (HN.out _).mono ?_; rintro e w1 ⟨rfl, rfl⟩
      go_wp2
      go_ret
      exact ⟨rfl, bl_al (Below.refl _ _) _⟩
  · have HK := Lib.hid hK
    by_cases h1 : N < 1
    · rw [chk_arg hK h1]
      clear hw hv hr
      obtain rfl | rfl | rfl : K = 1 ∨ K = 2 ∨ K = 3 := by omega
      all_goals
        clear hK
        go_enter Try.func22, Try.ntmps22
        go_wp2_with fail
        refine (HN.out _).mono ?_; rintro e w1 ⟨rfl, rfl⟩
        go_wp2
        go_ret
        exact ⟨rfl, bl_al (Below.refl _ _) _⟩
    · by_cases h2 : (K = 1 ∧ 64 < N) ∨ (K ≠ 1 ∧ 24 < N)
      · rw [chk_big hK h1 h2]
        clear hw hv hr
        obtain rfl | rfl | rfl : K = 1 ∨ K = 2 ∨ K = 3 := by omega
        all_goals
          first
            | (have h3 : 64 < N := by omega)
            | (have h3 : 24 < N := by omega)
          clear hK h2
          go_enter Try.func22, Try.ntmps22
          go_wp2_with fail
          refine (HN.out _).mono ?_; rintro e w1 ⟨rfl, rfl⟩
          go_wp2
          go_ret
          exact ⟨rfl, bl_al (Below.refl _ _) _⟩
      · by_cases h3 : formP K N C wl.length vl.length cl
        · have q : (wl.length ≤ 1000 ∧ vl.length ≤ 1000 ∧ cl.length ≤ 1000) ∧ Rws w ca cl := by
            by_cases h4 : K = 1
            · obtain ⟨f1, f2, f3⟩ := form_items h3 h4
              exact ⟨⟨by omega, by omega, by omega⟩, fun j hj => by omega⟩
            · obtain ⟨f1, f2, f3, f4, f5⟩ := form_costs h3 h4
              exact ⟨⟨by omega, by omega, by omega⟩, hr.rws (fun j hj => by rw [f5 j hj]; omega)⟩
          exact check_any K N C wl vl cl wa va ca wc vc cc w hw hv q.2 q.1.1 q.1.2.1 q.1.2.2
        · rw [chk_form hK h1 h2 h3]
          have HF := Lib.hid (fun o => raw_form K N C false wl.length vl.length cl ⟨fun h => (by cases h), fun h => absurd h h3⟩ wa va ca wc vc cc (w.alloc o) (hr.keep (bA o)) (fun k1 k2 => by omega))
          clear hw hv hr h3 bA
          obtain rfl | rfl | rfl : K = 1 ∨ K = 2 ∨ K = 3 := by omega
          all_goals
            first
              | (have b24 : N ≤ 24 := by omega)
              | (have b64 : N ≤ 64 := by omega)
            clear hK h2
            go_enter Try.func22, Try.ntmps22
            go_wp2_with fail
            refine (HN.out _).mono ?_; rintro e w1 ⟨rfl, rfl⟩
            go_wp2_with fail
            refine (HF.out _).mono ?_; rintro e w2 ⟨rfl, hb2⟩
            obtain ⟨-, bl⟩ := box_cells hb2
            clear hb2
            go_wp2
            go_ret
            exact ⟨rfl, bl⟩
end Go.Proofs.Ytaobaiifbmhegaa

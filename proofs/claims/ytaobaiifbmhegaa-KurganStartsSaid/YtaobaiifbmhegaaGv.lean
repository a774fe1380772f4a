/-
  greedy: Better.
-/
import Derived.Test.YtaobaiifbmhegaaGu
namespace Go.Proofs.Ytaobaiifbmhegaa
open Go.RowKit
set_option linter.unusedVariables false
/-- the box of an instance -/
def ob (K N C : Int) (v3 v4 v5 : Value) : Obj := .cells #[.int .i64 K, .int .i64 N, .int .i64 C, v3, v4, v5] 25
theorem cost_some {K N C : Int} {wl vl : List Int} {cl : List (List Int)} {x : List Int} (h : (costR K N C wl vl cl x).2 = 0) : chk K N C wl vl cl = 0 ∧ okx K N x := by
  by_cases hc : chk K N C wl vl cl = 0
  · by_cases ho : okx K N x
    · exact ⟨hc, ho⟩
    · rw [cost_arg hc ho] at h; cases h
  · rw [cost_bad hc] at h; exact absurd h hc
theorem cost_len {K N C : Int} {wl vl : List Int} {cl : List (List Int)} {x : List Int} (h : (costR K N C wl vl cl x).2 = 0) : 1 ≤ x.length ∧ x.length ≤ 64 := by
  obtain ⟨hc, ho⟩ := cost_some h
  obtain ⟨z0, z⟩ := chk_zero hc
  have hl := ho.1
  rcases z with z | z <;> omega
set_option maxRecDepth 100000 in
set_option maxHeartbeats 4000000 in
theorem better_no (K N C : Int) (wl vl : List Int) (cl : List (List Int)) (x : List Int) (wa va ca xa : Option Addr) (wc vc cc xc : Nat) (w : World) (h : Prob w wl vl cl wa va ca) (hI : Ints w xa x) (hl : x.length ≤ 1000) (hc : (costR K N C wl vl cl x).2 ≠ 0) :
    Calls Try.prog 16 #[.agg #[.int .i64 K, .int .i64 N, .int .i64 C, .slice wa wl.length wc, .slice va vl.length vc, .slice ca cl.length cc], .slice xa x.length xc] w (BtP K N C wl vl cl x w) := by
  have bA : Below w.heap.size w (w.alloc (ob K N C (.slice wa wl.length wc) (.slice va vl.length vc) (.slice ca cl.length cc))) := bl_al (Below.refl _ _) _
  have HC := Lib.hid (cost_any K N C wl vl cl x wa va ca xa wc vc cc xc _ (h.keep bA) (hI.keep bA) hl)
  have HG : Hid (∀ W', Below w.heap.size w W' → BtP K N C wl vl cl x w (.returned (.tuple #[.slice none 0 0, .int .i64 (costR K N C wl vl cl x).2])) W') := fun W' hb => .inl ⟨hc, rfl, hb⟩
  have BA := Lib.hid bA
  unfold ob at HC BA
  clear h hI bA hl
  have hc' : ((costR K N C wl vl cl x).2 != 0) = true := by simpa using hc
  clear hc
  generalize BtP K N C wl vl cl x w = G at *
  generalize costR K N C wl vl cl x = cr at *
  obtain ⟨co, ce⟩ := cr
  simp only at HC HG hc'
  generalize x.length = n at *
  go_enter Try.func16, Try.ntmps16
  go_wp2_with fail
  refine HC.out.mono ?_; rintro e w1 ⟨rfl, hb⟩
  have B1 := Lib.hid (bl_tr BA.out hb)
  clear hb HC
  go_wp2
  exact HG.out _ B1.out
/-- a search's box that was just made -/
def zb : Obj := .cells #[.int .i64 0, .int .i64 0, .int .i64 0, .slice none 0 0, .slice none 0 0, .slice none 0 0, .slice none 0 0, .int .i64 0] 52
def ZB (W : World) (g : Nat) : Prop := W.cell? ⟨g, 0, none⟩ = some (.int .i64 0) ∧ W.cell? ⟨g, 1, none⟩ = some (.int .i64 0) ∧ W.cell? ⟨g, 2, none⟩ = some (.int .i64 0) ∧ W.cell? ⟨g, 3, none⟩ = some (.slice none 0 0) ∧ W.cell? ⟨g, 4, none⟩ = some (.slice none 0 0) ∧ W.cell? ⟨g, 5, none⟩ = some (.slice none 0 0) ∧ W.cell? ⟨g, 6, none⟩ = some (.slice none 0 0) ∧ W.cell? ⟨g, 7, none⟩ = some (.int .i64 0) ∧
  W.frozen? ⟨g, 0, none⟩ = false ∧ W.frozen? ⟨g, 1, none⟩ = false ∧ W.frozen? ⟨g, 2, none⟩ = false ∧ W.frozen? ⟨g, 3, none⟩ = false ∧ W.frozen? ⟨g, 4, none⟩ = false ∧ W.frozen? ⟨g, 5, none⟩ = false ∧ W.frozen? ⟨g, 6, none⟩ = false ∧ W.frozen? ⟨g, 7, none⟩ = false
theorem zb_all {W : World} {g : Nat} (h : W.heap[g]? = some zb) : ZB W g := by
  unfold zb at h
  refine ⟨?_, ?_, ?_, ?_, ?_, ?_, ?_, ?_, ?_, ?_, ?_, ?_, ?_, ?_, ?_, ?_⟩ <;> simp [World.cell?, World.frozen?, h]
theorem zb_bel {w w1 : World} (h : Below w.heap.size w w1) : Below w.heap.size w (w1.alloc zb).drew :=
  (h.alloc h.size zb).trans ((od.bl_drew _).mono (h.alloc h.size zb).size)
theorem zb_sub {w1 w2 : World} (h : Below (w1.alloc zb).drew.heap.size (w1.alloc zb).drew w2) : Below w1.heap.size w1 w2 :=
  ((bl_al (Below.refl _ w1) zb).trans ((od.bl_drew _).mono (by simp))).trans (h.mono (by show _ ≤ (w1.alloc zb).heap.size; simp))
theorem zb_keep {w1 w2 : World} (h : Below (w1.alloc zb).drew.heap.size (w1.alloc zb).drew w2) : w2.heap[w1.heap.size]? = some zb :=
  (h.block _ (by show _ < (w1.alloc zb).heap.size; simp)).trans (heap_alloc_new w1 zb)
theorem sr_new {B gx n cap : Nat} {x : List Int} {w w2 : World} (h : od.Own B gx n cap x w w2) (K N C : Int) (v3 v4 v5 : Value) (c : Int) (hB : B ≤ w2.heap.size) :
    Hid (Sr B w2.heap.size gx n cap K N C v3 v4 v5 x c w (w2.alloc (.cells #[.int .i64 K, .int .i64 N, .int .i64 C, v3, v4, v5, .slice (some ⟨gx, 0, none⟩) n cap, .int .i64 c] 52))) :=
  ⟨h.keep (bl_al (Below.refl _ _) _), hB, heap_alloc_new w2 _⟩
set_option maxHeartbeats 2000000 in
theorem sr_old {B g gx n cap : Nat} {x : List Int} {w w2 : World} (h : od.Own B gx n cap x w w2) (hz : w2.heap[g]? = some zb) (hB : B ≤ g) (K N C : Int) (v3 v4 v5 : Value) (c : Int) :
    Hid (Sr B g gx n cap K N C v3 v4 v5 x c w ((((((((w2.setCell ⟨g, 0, none⟩ (.int .i64 K)).setCell ⟨g, 1, none⟩ (.int .i64 N)).setCell ⟨g, 2, none⟩ (.int .i64 C)).setCell ⟨g, 3, none⟩ v3).setCell ⟨g, 4, none⟩ v4).setCell ⟨g, 5, none⟩ v5).setCell ⟨g, 6, none⟩ (.slice (some ⟨gx, 0, none⟩) n cap)).setCell ⟨g, 7, none⟩ (.int .i64 c))) := by
  obtain ⟨cur, hc⟩ := h.blk
  unfold zb at hz
  have hne : g ≠ gx := blk_ne hz hc (by decide)
  have hne' : gx ≠ g := fun e => hne e.symm
  have h0 := heap_setCell_same w2 g 0 _ 52 (.int .i64 K) hz
  have h1 := heap_setCell_same _ g 1 _ 52 (.int .i64 N) h0
  have h2 := heap_setCell_same _ g 2 _ 52 (.int .i64 C) h1
  have h3 := heap_setCell_same _ g 3 _ 52 v3 h2
  have h4 := heap_setCell_same _ g 4 _ 52 v4 h3
  have h5 := heap_setCell_same _ g 5 _ 52 v5 h4
  have h6 := heap_setCell_same _ g 6 _ 52 (.slice (some ⟨gx, 0, none⟩) n cap) h5
  have h7 := heap_setCell_same _ g 7 _ 52 (.int .i64 c) h6
  have o0 := h.aside g 0 (.int .i64 K) hne hB
  have o1 := o0.aside g 1 (.int .i64 N) hne hB
  have o2 := o1.aside g 2 (.int .i64 C) hne hB
  have o3 := o2.aside g 3 v3 hne hB
  have o4 := o3.aside g 4 v4 hne hB
  have o5 := o4.aside g 5 v5 hne hB
  have o6 := o5.aside g 6 (.slice (some ⟨gx, 0, none⟩) n cap) hne hB
  have o7 := o6.aside g 7 (.int .i64 c) hne hB
  refine ⟨o7, hB, h7.trans ?_⟩
  simp
set_option maxRecDepth 100000 in
set_option maxHeartbeats 4000000 in
theorem better_ok (K N C : Int) (wl vl : List Int) (cl : List (List Int)) (x : List Int) (wa va ca : Option Addr) (b o : Nat) (wc vc cc xc : Nat) (w : World) (h : Prob w wl vl cl wa va ca) (hI : Ints w (some ⟨b, o, none⟩) x) (hl : x.length ≤ xc ∧ xc ≤ 9223372036854775807) (hc : (costR K N C wl vl cl x).2 = 0) :
    Calls Try.prog 16 #[.agg #[.int .i64 K, .int .i64 N, .int .i64 C, .slice wa wl.length wc, .slice va vl.length vc, .slice ca cl.length cc], .slice (some ⟨b, o, none⟩) x.length xc] w (BtP K N C wl vl cl x w) := by
  have l64 := cost_len hc
  have hb0 : b < w.heap.size := by obtain ⟨_, _, e, q, _⟩ := hI 0 (by omega); injection e with e; injection e with e1 _; rw [e1]; exact q
  have bA : Below w.heap.size w (w.alloc (ob K N C (.slice wa wl.length wc) (.slice va vl.length vc) (.slice ca cl.length cc))) := bl_al (Below.refl _ _) _
  have HC := Lib.hid (cost_any K N C wl vl cl x wa va ca (some ⟨b, o, none⟩) wc vc cc xc _ (h.keep bA) (hI.keep bA) (by omega))
  have q0 := Lib.hid (heap_alloc_new w (ob K N C (.slice wa wl.length wc) (.slice va vl.length vc) (.slice ca cl.length cc)))
  have HCl : Hid (∀ W, Below w.heap.size w W → Calls Try.prog 38 #[.slice (some ⟨b, o, none⟩) x.length xc] W fun e w' => ∃ g cap, e = .returned (.slice (some ⟨g, 0, none⟩) x.length cap) ∧ od.Own W.heap.size g x.length cap x W w') := fun W hW =>
    od.clone_any x b o xc hl.1 (by omega) hl.2 W (Nat.lt_of_lt_of_le hb0 hW.size) (fun j hj => by
      obtain ⟨b', o', e, _, c⟩ := hI j hj
      injection e with e; injection e with e1 e2; subst e1; subst e2
      rw [od_nth]; unfold nth
      exact (hW.cell (p := ⟨b, o + j, none⟩) hb0).trans c)
  have HR : Hid (∀ (gS gx cap : Nat) (W : World) (p : List Int × Int), Sr w.heap.size gS gx x.length cap K N C (.slice wa wl.length wc) (.slice va vl.length vc) (.slice ca cl.length cc) p.1 p.2 w W → Calls Try.prog 39 #[.pointer (some ⟨gS, 0, none⟩)] W fun e w' => e = .returned (.tuple #[]) ∧ Sr w.heap.size gS gx x.length cap K N C (.slice wa wl.length wc) (.slice va vl.length vc) (.slice ca cl.length cc) (runR (costR K N C wl vl cl) K x.length 50 p).1 (runR (costR K N C wl vl cl) K x.length 50 p).2 w w') := fun gS gx cap W p hS => run_prob K N C wl vl cl wa va ca wc vc cc w h gS gx x.length cap l64.2 l64.1 W p hS
  have HG : Hid (∀ g cap W', od.Own w.heap.size g x.length cap (runR (costR K N C wl vl cl) K x.length 50 (x, (costR K N C wl vl cl x).1)).1 w W' → BtP K N C wl vl cl x w (.returned (.tuple #[.slice (some ⟨g, 0, none⟩) x.length cap, .int .i64 0])) W') := fun g cap W' ho => .inr ⟨hc, g, cap, rfl, ho⟩
  have BA := Lib.hid bA
  unfold ob at HC BA q0
  clear h hI bA hl
  have RQ := Lib.hid (fun gS gx cap W hS => HR.out gS gx cap W (x, (costR K N C wl vl cl x).1) hS)
  clear HR
  generalize BtP K N C wl vl cl x w = G at *
  generalize runR (costR K N C wl vl cl) K x.length 50 (x, (costR K N C wl vl cl x).1) = rr at *
  generalize costR K N C wl vl cl x = cr at *
  obtain ⟨co, ce⟩ := cr
  obtain ⟨r1, r2⟩ := rr
  simp only at HC HG hc RQ
  subst hc
  generalize x.length = n at *
  go_enter Try.func16, Try.ntmps16
  go_wp2_with fail
  refine HC.out.mono ?_; rintro e w1 ⟨rfl, hb⟩
  have B1 := Lib.hid (bl_tr BA.out hb)
  have Q1 := Lib.hid ((hb.block _ (lt_hp q0.out)).trans q0.out)
  obtain ⟨c0, c1, c2, c3, c4, c5⟩ := box6 Q1.out
  clear hb HC q0
  have HCA : Hid (Calls Try.prog 38 #[.slice (some ⟨b, o, none⟩) n xc] w1.drew fun e w' => ∃ g cap, e = .returned (.slice (some ⟨g, 0, none⟩) n cap) ∧ Hid (od.Own w.heap.size g n cap x w w') ∧ Hid (Below w1.heap.size w1 w')) :=
    (HCl.out _ (B1.out.trans ((od.bl_drew w1).mono B1.out.size))).mono fun e w' ⟨g, cap, h1, h2⟩ => ⟨g, cap, h1, h2.down (B1.out.trans ((od.bl_drew w1).mono B1.out.size)) B1.out.size, od.bl_undr h2.2.2.2⟩
  have HCB : Hid (Calls Try.prog 38 #[.slice (some ⟨b, o, none⟩) n xc] (w1.alloc zb).drew fun e w' => ∃ g cap, e = .returned (.slice (some ⟨g, 0, none⟩) n cap) ∧ Hid (od.Own w.heap.size g n cap x w w' ∧ w'.heap[w1.heap.size]? = some zb) ∧ ZB w' w1.heap.size ∧ Hid (Below w1.heap.size w1 w')) :=
    (HCl.out _ (zb_bel B1.out)).mono fun e w' ⟨g, cap, h1, h2⟩ => ⟨g, cap, h1, ⟨h2.down (zb_bel B1.out) (zb_bel B1.out).size, zb_keep h2.2.2.2⟩, zb_all (zb_keep h2.2.2.2), zb_sub h2.2.2.2⟩
  unfold zb ZB at HCB
  clear HCl
  go_upto_region 4 with fail
  go_cut [8] from 9 (fun v wx => ∃ gS gx cap, v = .pointer (some ⟨gS, 0, none⟩) ∧ Hid (Sr w.heap.size gS gx n cap K N C (.slice wa wl.length wc) (.slice va vl.length vc) (.slice ca cl.length cc) x co w wx))
  case first =>
    have FX := Lib.hid (fun (Y : World) (h : Below w1.heap.size w1 Y) => show (Y.cell? ⟨w.heap.size, 0, none⟩ = some (.int .i64 K) ∧ Y.cell? ⟨w.heap.size, 1, none⟩ = some (.int .i64 N) ∧ Y.cell? ⟨w.heap.size, 2, none⟩ = some (.int .i64 C) ∧ Y.cell? ⟨w.heap.size, 3, none⟩ = some (.slice wa wl.length wc) ∧ Y.cell? ⟨w.heap.size, 4, none⟩ = some (.slice va vl.length vc) ∧ Y.cell? ⟨w.heap.size, 5, none⟩ = some (.slice ca cl.length cc)) from box6 ((h.block _ (lt_hp Q1.out)).trans Q1.out))
    have hs1 := lt_hp Q1.out
    go_region_with (go_at_call 38; first
      | (refine HCA.out.mono ?_; rintro e w2 ⟨gx, cap, rfl, ho, D2⟩; have hs2 : w.heap.size < w2.heap.size := Nat.lt_of_lt_of_le hs1 D2.out.size; obtain ⟨k0, k1, k2, k3, k4, k5⟩ := FX.out _ D2.out)
      | (refine HCB.out.mono ?_; rintro e w2 ⟨gx, cap, rfl, ho, ⟨d0, d1, d2, d3, d4, d5, d6, d7, f0, f1, f2, f3, f4, f5, f6, f7⟩, D2⟩; have hs2 : w.heap.size < w2.heap.size := Nat.lt_of_lt_of_le hs1 D2.out.size; obtain ⟨k0, k1, k2, k3, k4, k5⟩ := FX.out _ D2.out))
    all_goals
      go_wp2_with fail
      go_meet
      first
        | exact ⟨_, gx, cap, rfl, sr_new ho.out _ _ _ _ _ _ _ (Nat.le_trans B1.out.size D2.out.size)⟩
        | exact ⟨_, gx, cap, rfl, sr_old ho.out.1 ho.out.2 B1.out.size _ _ _ _ _ _ _⟩
  case rest =>
  obtain ⟨gS, gx, cap, rfl, HS⟩ := hcut
  clear HCA HCB c0 c1 c2 c3 c4 c5
  go_wp2_with fail
  refine (RQ.out gS gx cap _ HS.out).mono ?_; rintro e w3 ⟨rfl, h3⟩
  have HO := Lib.hid (HG.out gx cap w3 h3.own)
  obtain ⟨c0, c1, c2, c3, c4, c5, c6, c7⟩ := h3.cells
  clear h3 HS RQ HG
  go_wp2
  exact HO.out
theorem better_any (K N C : Int) (wl vl : List Int) (cl : List (List Int)) (x : List Int) (wa va ca xa : Option Addr) (wc vc cc xc : Nat) (w : World) (h : Prob w wl vl cl wa va ca) (hI : Ints w xa x) (hl : x.length ≤ 1000) (hx : x.length ≤ xc ∧ xc ≤ 9223372036854775807) :
    Calls Try.prog 16 #[.agg #[.int .i64 K, .int .i64 N, .int .i64 C, .slice wa wl.length wc, .slice va vl.length vc, .slice ca cl.length cc], .slice xa x.length xc] w (BtP K N C wl vl cl x w) := by
  by_cases hc : (costR K N C wl vl cl x).2 = 0
  · have l64 := cost_len hc
    obtain ⟨b, o, e, _, _⟩ := hI 0 (by omega)
    subst e
    exact better_ok K N C wl vl cl x wa va ca b o wc vc cc xc w h hI hx hc
  · exact better_no K N C wl vl cl x wa va ca xa wc vc cc xc w h hI hl hc
end Go.Proofs.Ytaobaiifbmhegaa

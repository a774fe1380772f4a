/-
  greedy: First of no problem and of items; finds() is true.
-/
import Derived.Test.YtaobaiifbmhegaaFb
namespace Go.Proofs.Ytaobaiifbmhegaa
open Go.RowKit
set_option linter.unusedVariables false
/-- a first answer -/
def FirstR (K C : Int) (wl vl : List Int) (cl : List (List Int)) (x : List Int) : Prop :=
  (K = 1 ∧ ∃ T, od.IsRk (od.ltR vl wl) wl.length T ∧ od.OnRk (od.ltR vl wl) wl.length T ∧ x = packR C wl vl T) ∨ (K ≠ 1 ∧ x = asR K cl cl.length)
/-- what First leaves -/
def FsP (K N C : Int) (wl vl : List Int) (cl : List (List Int)) (w : World) (e : Ending) (w' : World) : Prop :=
  (chk K N C wl vl cl ≠ 0 ∧ e = .returned (.tuple #[.slice none 0 0, .int .i64 (chk K N C wl vl cl)]) ∧ Below w.heap.size w w') ∨
  (chk K N C wl vl cl = 0 ∧ ∃ g x, e = .returned (.tuple #[.slice (some ⟨g, 0, none⟩) x.length x.length, .int .i64 0]) ∧ FirstR K C wl vl cl x ∧ od.Own w.heap.size g x.length x.length x w w')
set_option maxRecDepth 100000 in
set_option maxHeartbeats 4000000 in
theorem first_no (K N C : Int) (wl vl : List Int) (cl : List (List Int)) (wa va ca : Option Addr) (wc vc cc : Nat) (w : World) (h : Prob w wl vl cl wa va ca) (hc : chk K N C wl vl cl ≠ 0) :
    Calls Try.prog 10 #[.agg #[.int .i64 K, .int .i64 N, .int .i64 C, .slice wa wl.length wc, .slice va vl.length vc, .slice ca cl.length cc]] w (FsP K N C wl vl cl w) := by
  have bA : Below w.heap.size w (w.alloc (ob K N C (.slice wa wl.length wc) (.slice va vl.length vc) (.slice ca cl.length cc))) := bl_al (Below.refl _ _) _
  have HC := Lib.hid (check_prob K N C (wc := wc) (vc := vc) (cc := cc) (h.keep bA))
  have HG : Hid (∀ W', Below w.heap.size w W' → FsP K N C wl vl cl w (.returned (.tuple #[.slice none 0 0, .int .i64 (chk K N C wl vl cl)])) W') := fun W' hb => .inl ⟨hc, rfl, hb⟩
  have BA := Lib.hid bA
  unfold ob at HC BA
  clear h bA
  have hc' : (chk K N C wl vl cl != 0) = true := by simpa using hc
  clear hc
  generalize FsP K N C wl vl cl w = G at *
  generalize chk K N C wl vl cl = ce at *
  go_enter Try.func10, Try.ntmps10
  go_wp2_with fail
  refine HC.out.mono ?_; rintro e w1 ⟨rfl, hb⟩
  have B1 := Lib.hid (bl_tr BA.out hb)
  clear hb HC
  go_wp2
  exact HG.out _ B1.out
theorem itf_of {N C : Int} {wl vl : List Int} {cl : List (List Int)} (hc : chk 1 N C wl vl cl = 0) : 1 ≤ wl.length ∧ ItF wl vl ∧ N = (wl.length : Int) ∧ vl.length = wl.length ∧ cl.length = 0 ∧ 0 ≤ C ∧ C ≤ 2147483647 := by
  obtain ⟨z0, z⟩ := chk_zero hc
  rcases z with ⟨_, z1, z2, z3, z4, z5, z6⟩ | ⟨z, _⟩
  · exact ⟨by omega, ⟨by omega, by omega, items_ok wl vl (by omega) z6⟩, z2.symm, by omega, z4, z5.1, z5.2⟩
  · omega
set_option maxRecDepth 100000 in
set_option maxHeartbeats 4000000 in
theorem first_items (N C : Int) (wl vl : List Int) (cl : List (List Int)) (wa va ca : Option Addr) (wc vc cc : Nat) (w : World) (h : Prob w wl vl cl wa va ca) (hc : chk 1 N C wl vl cl = 0) :
    Calls Try.prog 10 #[.agg #[.int .i64 1, .int .i64 N, .int .i64 C, .slice wa wl.length wc, .slice va vl.length vc, .slice ca cl.length cc]] w (FsP 1 N C wl vl cl w) := by
  obtain ⟨z1, hF, zN, zv, zc, zC⟩ := itf_of hc
  have bA : Below w.heap.size w (w.alloc (ob 1 N C (.slice wa wl.length wc) (.slice va vl.length vc) (.slice ca cl.length cc))) := bl_al (Below.refl _ _) _
  have HC := Lib.hid (check_prob 1 N C (wc := wc) (vc := vc) (cc := cc) (h.keep bA))
  have q0 := Lib.hid (heap_alloc_new w (ob 1 N C (.slice wa wl.length wc) (.slice va vl.length vc) (.slice ca cl.length cc)))
  rw [hc] at HC
  have HP : Hid (∀ W, Below w.heap.size w W → Calls Try.prog 32 #[.agg #[.int .i64 1, .int .i64 N, .int .i64 C, .slice wa wl.length wc, .slice va vl.length vc, .slice ca cl.length cc]] W fun e w' => ∃ g T, e = .returned (.slice (some ⟨g, 0, none⟩) wl.length wl.length) ∧ Hid (od.IsRk (od.ltR vl wl) wl.length T ∧ od.OnRk (od.ltR vl wl) wl.length T ∧ od.Own w.heap.size g wl.length wl.length (packR C wl vl T) w w')) := fun W hW => by
    have p := pack_any 1 C wl vl (.slice ca cl.length cc) wl.length rfl hF z1 zC wa va wc vc W (h.1.keep hW) (h.2.1.keep hW)
    rw [zN, zv]
    exact p.mono fun e w' ⟨g, T, e1, t1, t2, t3⟩ => ⟨g, T, e1, t1, t2, t3.down hW hW.size⟩
  have HG : Hid (∀ g T W', od.IsRk (od.ltR vl wl) wl.length T → od.OnRk (od.ltR vl wl) wl.length T → od.Own w.heap.size g wl.length wl.length (packR C wl vl T) w W' → FsP 1 N C wl vl cl w (.returned (.tuple #[.slice (some ⟨g, 0, none⟩) wl.length wl.length, .int .i64 0])) W') := fun g T W' t1 t2 t3 => by
    have l : (packR C wl vl T).length = wl.length := t3.1
    exact .inr ⟨hc, g, packR C wl vl T, by rw [l], .inl ⟨rfl, T, t1, t2, rfl⟩, by rw [l]; exact t3⟩
  have BA := Lib.hid bA
  unfold ob at HC BA q0
  clear h bA hF hc z1 zN zv zc zC
  generalize FsP 1 N C wl vl cl w = G at *
  go_enter Try.func10, Try.ntmps10
  go_wp2_with fail
  refine HC.out.mono ?_; rintro e w1 ⟨rfl, hb⟩
  have B1 := Lib.hid (bl_tr BA.out hb)
  obtain ⟨c0, c1, c2, c3, c4, c5⟩ := box6 ((hb.block _ (lt_hp q0.out)).trans q0.out)
  clear hb HC q0
  go_wp2_with fail
  refine (HP.out w1 B1.out).mono ?_; rintro e w2 ⟨g, T, rfl, hT⟩
  have HF := Lib.hid (HG.out g T w2 hT.out.1 hT.out.2.1 hT.out.2.2)
  clear HP HG hT c0 c1 c2 c3 c4 c5
  go_wp2
  exact HF.out
theorem finds_rk : od.IsRk (od.ltR [7, 9] [6, 10]) 2 [0, 1] := by
  refine ⟨rfl, fun a ha => ?_⟩
  rcases (show a = 0 ∨ a = 1 by omega) with rfl | rfl <;> decide +kernel
theorem finds_pack : packR 10 [6, 10] [7, 9] [0, 1] = [0, 1] := by decide +kernel
theorem finds_chk : chk 1 2 10 [6, 10] [7, 9] [] = 0 := by
  rw [chk_items (by omega) (by omega) (by omega) (by unfold formP; exact Or.inl ⟨rfl, rfl, rfl, rfl⟩) rfl]
  decide +kernel
theorem finds_one {x : List Int} (h : FirstR 1 10 [6, 10] [7, 9] [] x) : x = [0, 1] := by
  rcases h with ⟨_, T, t1, t2, rfl⟩ | ⟨h, _⟩
  · have := od.isRk_one t1 t2 finds_rk
    rw [← this]; exact finds_pack
  · exact absurd rfl h
set_option maxRecDepth 100000 in
set_option maxHeartbeats 4000000 in
theorem finds_any (w : World) : Calls Try.prog 12 #[] w fun e w' => e = .returned (.bool true) ∧ Below w.heap.size w w' := by
  have HC : Hid (∀ (W : World) (g1 g2 : Nat), W.heap[g1]? = some (.cells #[.int .i64 6, .int .i64 10] 3 (0, 0)) → W.heap[g2]? = some (.cells #[.int .i64 7, .int .i64 9] 3 (0, 0)) → Calls Try.prog 10 #[.agg #[.int .i64 1, .int .i64 2, .int .i64 10, .slice (some ⟨g1, 0, none⟩) 2 2, .slice (some ⟨g2, 0, none⟩) 2 2, .slice none 0 0]] W
      fun e w' => ∃ g, e = .returned (.tuple #[.slice (some ⟨g, 0, none⟩) 2 2, .int .i64 0]) ∧ w'.cell? ⟨g, 0, none⟩ = some (.int .i64 0) ∧ w'.cell? ⟨g, 1, none⟩ = some (.int .i64 1) ∧ Hid (Below W.heap.size W w')) := fun W g1 g2 h1 h2 => by
    have P : Prob W [6, 10] [7, 9] [] (some ⟨g1, 0, none⟩) (some ⟨g2, 0, none⟩) none := ⟨fun j hj => ⟨g1, 0, rfl, lt_hp h1, by
      have hj : j < 2 := hj
      rcases (show j = 0 ∨ j = 1 by omega) with rfl | rfl <;> simp [World.cell?, h1]⟩, fun j hj => ⟨g2, 0, rfl, lt_hp h2, by
      have hj : j < 2 := hj
      rcases (show j = 0 ∨ j = 1 by omega) with rfl | rfl <;> simp [World.cell?, h2]⟩, fun j hj => absurd hj (by simp), by simp, by simp, by simp⟩
    refine (first_items 2 10 [6, 10] [7, 9] [] _ _ _ 2 2 0 W P finds_chk).mono fun e w' h => ?_
    rcases h with ⟨h, _⟩ | ⟨_, g, x, e1, fx, ho⟩
    · exact absurd finds_chk h
    · have := finds_one fx
      subst this
      refine ⟨g, e1, ?_, ?_, ho.2.2.2⟩
      · have := ho.cell 0 (by simp); rw [this, od_nth]; unfold nth; rfl
      · have := ho.cell 1 (by simp); rw [this, od_nth]; unfold nth; rfl
  go_enter Try.func12, Try.ntmps12
  go_wp2_with fail
  refine (HC.out _ w.heap.size (w.heap.size + 1) ?_ ?_).mono ?_
  · exact heap_alloc2_old w _ _
  · exact heap_alloc2_new w _ _
  rintro e w1 ⟨g, rfl, c0, c1, hb⟩
  clear HC
  have HB := Lib.hid ((bl_al (bl_al (Below.refl w.heap.size w) _) _).trans (hb.out.mono (bl_al (bl_al (Below.refl w.heap.size w) _) _).size))
  clear hb
  go_wp2
  first
    | exact ⟨rfl, HB.out⟩
    | (go_ret; exact ⟨rfl, HB.out⟩)
end Go.Proofs.Ytaobaiifbmhegaa

/-
  greedy: Start.
-/
import Derived.Test.YtaobaiifbmhegaaFrAll
namespace Go.Proofs.Ytaobaiifbmhegaa
open Go.RowKit
set_option linter.unusedVariables false
/-- what Start leaves -/
def StaP (K N C : Int) (wl vl : List Int) (cl : List (List Int)) (w : World) (e : Ending) (w' : World) : Prop :=
  (chk K N C wl vl cl ≠ 0 ∧ e = .returned (.tuple #[.slice none 0 0, .int .i64 0, .int .i64 (chk K N C wl vl cl)]) ∧ Below w.heap.size w w') ∨
  (chk K N C wl vl cl = 0 ∧ ∃ g cap x, FirstR K C wl vl cl x ∧ e = .returned (.tuple #[.slice (some ⟨g, 0, none⟩) x.length cap, .int .i64 (runR (costR K N C wl vl cl) K x.length 50 (x, (costR K N C wl vl cl x).1)).2, .int .i64 0]) ∧ od.Own w.heap.size g x.length cap (runR (costR K N C wl vl cl) K x.length 50 (x, (costR K N C wl vl cl x).1)).1 w w')
set_option maxRecDepth 100000 in
set_option maxHeartbeats 4000000 in
theorem start_no (K N C : Int) (wl vl : List Int) (cl : List (List Int)) (wa va ca : Option Addr) (wc vc cc : Nat) (w : World) (h : Prob w wl vl cl wa va ca) (hc : chk K N C wl vl cl ≠ 0) :
    Calls Try.prog 18 #[.agg #[.int .i64 K, .int .i64 N, .int .i64 C, .slice wa wl.length wc, .slice va vl.length vc, .slice ca cl.length cc]] w (StaP K N C wl vl cl w) := by
  have bA : Below w.heap.size w (w.alloc (ob K N C (.slice wa wl.length wc) (.slice va vl.length vc) (.slice ca cl.length cc))) := bl_al (Below.refl _ _) _
  have HC : Hid (Calls Try.prog 10 #[.agg #[.int .i64 K, .int .i64 N, .int .i64 C, .slice wa wl.length wc, .slice va vl.length vc, .slice ca cl.length cc]] (w.alloc (ob K N C (.slice wa wl.length wc) (.slice va vl.length vc) (.slice ca cl.length cc))) fun e w' => e = .returned (.tuple #[.slice none 0 0, .int .i64 (chk K N C wl vl cl)]) ∧ Below (w.alloc (ob K N C (.slice wa wl.length wc) (.slice va vl.length vc) (.slice ca cl.length cc))).heap.size (w.alloc (ob K N C (.slice wa wl.length wc) (.slice va vl.length vc) (.slice ca cl.length cc))) w') := (first_any K N C wl vl cl wa va ca wc vc cc _ (h.keep bA)).mono fun e w' q => by
    rcases q with ⟨_, e1, e2⟩ | ⟨q, _⟩
    · exact ⟨e1, e2⟩
    · exact absurd q hc
  have HG : Hid (∀ W', Below w.heap.size w W' → StaP K N C wl vl cl w (.returned (.tuple #[.slice none 0 0, .int .i64 0, .int .i64 (chk K N C wl vl cl)])) W') := fun W' hb => .inl ⟨hc, rfl, hb⟩
  have BA := Lib.hid bA
  unfold ob at HC BA
  clear h bA
  have hc' : (chk K N C wl vl cl != 0) = true := by simpa using hc
  clear hc
  generalize StaP K N C wl vl cl w = G at *
  generalize chk K N C wl vl cl = ce at *
  go_enter Try.func18, Try.ntmps18
  go_wp2_with fail
  refine HC.out.mono ?_; rintro e w1 ⟨rfl, hb⟩
  have B1 := Lib.hid (bl_tr BA.out hb)
  clear hb HC
  go_wp2
  go_ret3
  exact HG.out _ B1.out
set_option maxRecDepth 100000 in
set_option maxHeartbeats 4000000 in
theorem start_ok (K N C : Int) (wl vl : List Int) (cl : List (List Int)) (wa va ca : Option Addr) (wc vc cc : Nat) (w : World) (h : Prob w wl vl cl wa va ca) (hc : chk K N C wl vl cl = 0) :
    Calls Try.prog 18 #[.agg #[.int .i64 K, .int .i64 N, .int .i64 C, .slice wa wl.length wc, .slice va vl.length vc, .slice ca cl.length cc]] w (StaP K N C wl vl cl w) := by
  have bA : Below w.heap.size w (w.alloc (ob K N C (.slice wa wl.length wc) (.slice va vl.length vc) (.slice ca cl.length cc))) := bl_al (Below.refl _ _) _
  have q0 := Lib.hid (heap_alloc_new w (ob K N C (.slice wa wl.length wc) (.slice va vl.length vc) (.slice ca cl.length cc)))
  have HC : Hid (Calls Try.prog 10 #[.agg #[.int .i64 K, .int .i64 N, .int .i64 C, .slice wa wl.length wc, .slice va vl.length vc, .slice ca cl.length cc]] (w.alloc (ob K N C (.slice wa wl.length wc) (.slice va vl.length vc) (.slice ca cl.length cc))) fun e w' => ∃ g x n, Hid (x.length = n ∧ FirstR K C wl vl cl x) ∧ e = .returned (.tuple #[.slice (some ⟨g, 0, none⟩) n n, .int .i64 0]) ∧ Hid (od.Own w.heap.size g n n x w w') ∧ Hid (Below (w.alloc (ob K N C (.slice wa wl.length wc) (.slice va vl.length vc) (.slice ca cl.length cc))).heap.size (w.alloc (ob K N C (.slice wa wl.length wc) (.slice va vl.length vc) (.slice ca cl.length cc))) w')) := (first_any K N C wl vl cl wa va ca wc vc cc _ (h.keep bA)).mono fun e w' q => by
    rcases q with ⟨q, _⟩ | ⟨_, g, x, e1, fx, ho⟩
    · exact absurd hc q
    · exact ⟨g, x, x.length, ⟨rfl, fx⟩, e1, ho.down bA bA.size, ho.2.2.2⟩
  have HCo : Hid (∀ (W : World) (g n : Nat) (x : List Int), od.Own w.heap.size g n n x w W → n ≤ 64 → Calls Try.prog 25 #[.agg #[.int .i64 K, .int .i64 N, .int .i64 C, .slice wa wl.length wc, .slice va vl.length vc, .slice ca cl.length cc], .slice (some ⟨g, 0, none⟩) n n] W fun e w' => e = .returned (.tuple #[.int .i64 (costR K N C wl vl cl x).1, .int .i64 (costR K N C wl vl cl x).2]) ∧ Below W.heap.size W w') := fun W g n x ho hn => by
    have := cost_any K N C wl vl cl x wa va ca (some ⟨g, 0, none⟩) wc vc cc n W (h.keep ho.2.2.2) (own_ints ho) (by rw [ho.1]; omega)
    rw [ho.1] at this
    exact this
  have HR : Hid (∀ (gS gx n : Nat) (W : World) (p : List Int × Int), n ≤ 64 → 1 ≤ n → Sr w.heap.size gS gx n n K N C (.slice wa wl.length wc) (.slice va vl.length vc) (.slice ca cl.length cc) p.1 p.2 w W → Calls Try.prog 39 #[.pointer (some ⟨gS, 0, none⟩)] W fun e w' => e = .returned (.tuple #[]) ∧ Sr w.heap.size gS gx n n K N C (.slice wa wl.length wc) (.slice va vl.length vc) (.slice ca cl.length cc) (runR (costR K N C wl vl cl) K n 50 p).1 (runR (costR K N C wl vl cl) K n 50 p).2 w w') := fun gS gx n W p h1 h2 hS => run_prob K N C wl vl cl wa va ca wc vc cc w h gS gx n n h1 h2 W p hS
  have HLn : Hid (∀ x, FirstR K C wl vl cl x → 1 ≤ x.length ∧ x.length ≤ 64) := fun x fx => cost_len (first_ok hc fx)
  have HG : Hid (∀ g x n W', x.length = n → FirstR K C wl vl cl x → od.Own w.heap.size g n n (runR (costR K N C wl vl cl) K n 50 (x, (costR K N C wl vl cl x).1)).1 w W' → StaP K N C wl vl cl w (.returned (.tuple #[.slice (some ⟨g, 0, none⟩) n n, .int .i64 (runR (costR K N C wl vl cl) K n 50 (x, (costR K N C wl vl cl x).1)).2, .int .i64 0])) W') := fun g x n W' hn fx ho => by
    subst hn
    exact .inr ⟨hc, g, x.length, x, fx, rfl, ho⟩
  have BA := Lib.hid bA
  unfold ob at HC BA q0
  clear h bA hc
  generalize StaP K N C wl vl cl w = G at *
  go_enter Try.func18, Try.ntmps18
  go_wp2_with fail
  refine HC.out.mono ?_; rintro e w1 ⟨gx, x, n, hx, rfl, ho, hb⟩
  obtain ⟨c0, c1, c2, c3, c4, c5⟩ := box6 ((hb.out.block _ (lt_hp q0.out)).trans q0.out)
  have hn := HLn.out x hx.out.2
  rw [hx.out.1] at hn
  have CO := Lib.hid (HCo.out w1 gx n x ho.out hn.2)
  have RQ := Lib.hid (fun gS W hS => HR.out gS gx n W (x, (costR K N C wl vl cl x).1) hn.2 hn.1 hS)
  have HGx := Lib.hid (fun W' h => HG.out gx x n W' hx.out.1 hx.out.2 h)
  have Q1 := Lib.hid ((hb.out.block _ (lt_hp q0.out)).trans q0.out)
  clear HC HCo HR HG HLn q0 hx hb
  generalize runR (costR K N C wl vl cl) K n 50 (x, (costR K N C wl vl cl x).1) = rr at *
  generalize costR K N C wl vl cl x = cr at *
  obtain ⟨co, er⟩ := cr
  obtain ⟨r1, r2⟩ := rr
  simp only at CO RQ HGx
  go_wp2_with fail
  refine CO.out.mono ?_; rintro e w2 ⟨rfl, hb2⟩
  have O2 := Lib.hid (ho.out.keep hb2)
  clear c0 c1 c2 c3 c4 c5 CO ho
  obtain ⟨c0, c1, c2, c3, c4, c5⟩ := box6 ((hb2.block _ (lt_hp Q1.out)).trans Q1.out)
  have HS := Lib.hid (RQ.out w2.heap.size _ (sr_new O2.out K N C (.slice wa wl.length wc) (.slice va vl.length vc) (.slice ca cl.length cc) co O2.out.2.2.2.size))
  clear hb2 Q1 RQ
  go_wp2_with fail
  refine HS.out.mono ?_; rintro e w3 ⟨rfl, h3⟩
  have HO := Lib.hid (fun m => HGx.out (w3.drewN m) (h3.own.keep (od.bl_dn (Below.refl _ _) m)))
  obtain ⟨k0, k1, k2, k3, k4, k5, k6, k7⟩ := h3.cells
  clear h3 HS HGx O2 c0 c1 c2 c3 c4 c5
  go_wp2
  go_quiet (fail)
  go_wp2
  first
    | exact HO.out _
    | (go_ret3; exact HO.out _)
theorem start_any (K N C : Int) (wl vl : List Int) (cl : List (List Int)) (wa va ca : Option Addr) (wc vc cc : Nat) (w : World) (h : Prob w wl vl cl wa va ca) :
    Calls Try.prog 18 #[.agg #[.int .i64 K, .int .i64 N, .int .i64 C, .slice wa wl.length wc, .slice va vl.length vc, .slice ca cl.length cc]] w (StaP K N C wl vl cl w) := by
  by_cases hc : chk K N C wl vl cl = 0
  · exact start_ok K N C wl vl cl wa va ca wc vc cc w h hc
  · exact start_no K N C wl vl cl wa va ca wc vc cc w h hc
end Go.Proofs.Ytaobaiifbmhegaa

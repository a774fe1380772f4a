/-
  kurgantop.KurganStarts, walked.
-/
import Derived.Test.YtaobaiifbmhegaaSa
import Derived.Test.YtaobaiifbmhegaaCr
import Derived.Test.YtaobaiifbmhegaaICopy
import Derived.Test.YtaobaiifbmhegaaSd
namespace Go.Proofs.Ytaobaiifbmhegaa
open Go.RowKit
set_option linter.unusedVariables false
/-- what Plain leaves, with its room -/
def PlainQ (l : List Int) (w : World) (e : Ending) (w' : World) : Prop := ∃ g : Nat, e = .returned (.slice (some ⟨g, 0, none⟩) l.length l.length) ∧ Below w.heap.size w w' ∧ IntsO w' g l
set_option maxRecDepth 1000000 in
set_option maxHeartbeats 2000000 in
theorem plain_q (K N C : Int) (wl vl : List Int) (cl : List (List Int)) (hc : chk K N C wl vl cl = 0) (wa va ca : Option Addr) (wc vc cc : Nat) (w : World) (h : Prob w wl vl cl wa va ca) :
    Calls Try.prog 24 #[.agg #[.int .i64 K, .int .i64 N, .int .i64 C, .slice wa wl.length wc, .slice va vl.length vc, .slice ca cl.length cc]] w (PlainQ (plainR K N C wl vl cl) w) := by
  obtain ⟨i0, hi, hz0, hz1, hz2⟩ := info_parts info3
  have bA : Below w.heap.size w (w.alloc (.cells #[.int .i64 K, .int .i64 N, .int .i64 C, .slice wa wl.length wc, .slice va vl.length vc, .slice ca cl.length cc] 25)) := bl_al (Below.refl _ _) _
  have HK := Lib.hid (check_prob K N C (wc := wc) (vc := vc) (cc := cc) (h.keep bA))
  have Q := Lib.hid (heap_alloc_new w (.cells #[.int .i64 K, .int .i64 N, .int .i64 C, .slice wa wl.length wc, .slice va vl.length vc, .slice ca cl.length cc] 25))
  have BA := Lib.hid bA
  obtain ⟨z0, z⟩ := chk_zero hc
  rw [hc] at HK
  obtain ⟨n, rfl⟩ : ∃ n : Nat, N = n := ⟨N.toNat, by omega⟩
  have hn : n ≤ 64 := by rcases z with z | z <;> omega
  have hn1 : 1 ≤ n := by omega
  have HR : Hid ((K = 1 ∧ plainR K n C wl vl cl = pre n 0) ∨ (K ≠ 1 ∧ plainR K n C wl vl cl = pre n n)) := by
    by_cases hK : K = 1
    · subst hK; exact Or.inl ⟨rfl, by rw [plain_items hc, pre_zero]; simp⟩
    · exact Or.inr ⟨hK, by rw [plain_rows hc hK, pre_all]; simp⟩
  have HL := Lib.hid (pre_len n)
  clear bA h hc z
  generalize plainR K n C wl vl cl = R at *
  generalize wl.length = wn at *
  generalize vl.length = vn at *
  generalize cl.length = cn at *
  go_enter Try.func24, Try.ntmps24
  go_wp2_with fail
  refine HK.out.mono ?_; rintro e w1 ⟨rfl, hb1⟩
  obtain ⟨c0, c1, c2, c3, c4, c5⟩ := box6_keep hb1 Q.out
  have B1 := Lib.hid (bl_tr BA.out hb1)
  have HB1 := Lib.hid hb1
  clear hb1
  go_wp2_with (at_make; refine wpList_make_full _ rfl _ _ 22 rfl w.heap.size 3 i0 (.int .i64 0) 1 Try.underlying22 hi hz0 hz1 .i64 .i64 _ _ n rfl rfl rfl rfl (by rw [hz2]; omega) (by unfold maxLen; omega) B1.out.size ?_)
  intro w2 hown hgrow
  have hb2 : Below w1.heap.size w1 w2 := (Below.refl w1.heap.size w1).grown hgrow (Nat.le_refl _) (fun j hj => by cases hj)
  clear c0 c1 c2 c3 c4 c5
  obtain ⟨c0, c1, c2, c3, c4, c5⟩ := box6_keep (bl_tr HB1.out hb2) Q.out
  have A0 : Hid (PlAt w w1.heap.size n 0 w2) := ⟨by rw [pre_zero, List.map_replicate, ← toList_madeCells_one]; exact hown, bl_tr B1.out hb2⟩
  have hg : w.heap.size ≤ w1.heap.size := B1.out.size
  clear hown hgrow hb2
  generalize w1.heap.size = g at *
  rcases Classical.em (K = 1) with hK | hK
  · have hr : R = pre n 0 := by rcases HR.out with h | h <;> first | exact h.2 | exact absurd hK h.1
    subst hK
    have hl := HL.out 0
    clear HR
    go_wp2
    go_ret
    exact ⟨g, by rw [hr, hl]; rfl, A0.out.2, by rw [hr]; exact ints_own hl A0.out.1⟩
  · have hr : R = pre n n := by rcases HR.out with h | h <;> first | exact h.2 | exact absurd h.1 hK
    have hl := HL.out n
    have HRr := Lib.hid hr
    have HLl := Lib.hid hl
    have hK' : (K == 1) = false := by simp [hK]
    clear HR hr hl hK
    go_wp2
    clear c0 c1 c2 c3 c4 c5
    go_loopw [16] (fun i wr => ∃ k : Nat, k ≤ n ∧ i = .int .i64 k ∧ Hid (PlAt w g n k wr)) (fun i _ => n - (intOf i).toNat)
    case atStart => exact ⟨0, by omega, rfl, A0⟩
    case round =>
      clear A0
      obtain ⟨k, hk, rfl, HP⟩ := hrel
      by_cases hlt : k < n
      · obtain ⟨o1, o2⟩ := pl_old hlt HP.out
        go_wp2
        go_roundw
        case rel => exact ⟨k + 1, by omega, by go_num, pl_next hlt hg HP.out⟩
        case measure => simp [intOf]; omega
      · obtain rfl : n = k := by omega
        go_wp2
        go_ret
        exact ⟨g, by rw [HRr.out, HLl.out]; rfl, HP.out.2, by rw [HRr.out]; exact ints_own HLl.out HP.out.1⟩
/-- a problem in form that came in -/
theorem raw_prob {K N C : Int} {wl vl : List Int} {cl : List (List Int)} {wa va ca : Option Addr} {w : World} (hc : chk K N C wl vl cl = 0) (h1 : Ints w wa wl) (h2 : Ints w va vl) (h3 : RwF w ca cl) : Prob w wl vl cl wa va ca := by
  obtain ⟨z0, z⟩ := chk_zero hc
  obtain ⟨t1, t2, _, _, t5⟩ := chk_tot hc
  exact ⟨h1, h2, h3.rws (fun j hj => by rw [t5 j hj]; omega), by rcases z with z | z <;> omega, by omega, by omega⟩
/-- a copy of a problem -/
def C3 (B : Nat) (W : World) (a1 a2 a3 : Option Addr) (wl vl : List Int) (cl : List (List Int)) : Prop := LO B W a1 wl ∧ LO B W a2 vl ∧ RO B W a3 cl
theorem C3.prob {B : Nat} {W : World} {a1 a2 a3 : Option Addr} {wl vl : List Int} {cl : List (List Int)} (h : C3 B W a1 a2 a3 wl vl cl) (l1 : wl.length ≤ 1000) (l2 : vl.length ≤ 1000) (l3 : cl.length ≤ 1000) : Prob W wl vl cl a1 a2 a3 := ⟨h.1.ints, h.2.1.ints, h.2.2.rws, l1, l2, l3⟩
theorem C3.other {B b : Nat} {W W1 : World} {a1 a2 a3 : Option Addr} {wl vl : List Int} {cl : List (List Int)} {cs : Array Value} (h : C3 B W a1 a2 a3 wl vl cl) (q : W.heap[b]? = some (.cells cs 25 (0, 0))) (he : ∀ k, k ≠ b → W1.heap[k]? = W.heap[k]?) : C3 B W1 a1 a2 a3 wl vl cl :=
  have o : ∀ (g : Nat) (ds : Array Value) (t : TypeId), W.heap[g]? = some (.cells ds t (0, 0)) → t ≠ 25 → W1.heap[g]? = W.heap[g]? := fun g ds t e ht => he g (blk_ne e q ht)
  ⟨h.1.other o, h.2.1.other o, h.2.2.other o⟩
set_option maxRecDepth 100000 in
set_option maxHeartbeats 4000000 in
theorem kstarts_no (kd N C : Int) (wl vl : List Int) (cl : List (List Int)) (wa va ca : Option Addr) (wc vc cc : Nat) (w : World) (h1 : Ints w wa wl) (h2 : Ints w va vl) (h3 : RwF w ca cl) (h : chk kd N C wl vl cl ≠ 0 ∨ 9 < N) :
    Calls Try.prog 7 #[.agg #[.int .i64 kd, .int .i64 N, .int .i64 C, .slice wa wl.length wc, .slice va vl.length vc, .slice ca cl.length cc]] w fun e w' => e = .returned (.bool true) ∧ Below w.heap.size w w' := by
  have bA : Below w.heap.size w (w.alloc (.cells #[.int .i64 kd, .int .i64 N, .int .i64 C, .slice wa wl.length wc, .slice va vl.length vc, .slice ca cl.length cc] 25)) := bl_al (Below.refl _ _) _
  have Q0 := Lib.hid (heap_alloc_new w (.cells #[.int .i64 kd, .int .i64 N, .int .i64 C, .slice wa wl.length wc, .slice va vl.length vc, .slice ca cl.length cc] 25))
  have HS := Lib.hid (fun W => sd.stands_any W)
  have HC := Lib.hid (fun (W : World) (hb : Below w.heap.size w W) => check_raw kd N C wl vl cl wa va ca wc vc cc W (h1.keep hb) (h2.keep hb) (h3.keep hb))
  have BA := Lib.hid bA
  clear h1 h2 h3 bA
  by_cases hc : chk kd N C wl vl cl = 0
  · have h9 : 9 < N := by rcases h with h | h; exact absurd hc h; exact h
    rw [hc] at HC
    clear hc h
    go_enter Try.func7, Try.ntmps7
    go_wp2_with fail
    refine (HS.out _).mono ?_; rintro e w1 ⟨rfl, hb1⟩
    have B1 := Lib.hid (bl_tr BA.out hb1)
    have Q1 := Lib.hid ((hb1.block _ (lt_hp Q0.out)).trans Q0.out)
    obtain ⟨c0, c1, c2, c3, c4, c5⟩ := box6 Q1.out
    clear hb1
    go_wp2_with fail
    refine (HC.out w1 B1.out).mono ?_; rintro e w2 ⟨rfl, hb2⟩
    have B2 := Lib.hid (bl_tr B1.out hb2)
    have Q2 := Lib.hid ((hb2.block _ (lt_hp Q1.out)).trans Q1.out)
    clear c0 c1 c2 c3 c4 c5
    obtain ⟨c0, c1, c2, c3, c4, c5⟩ := box6 Q2.out
    clear hb2
    go_wp2_with fail
    refine (HS.out _).mono ?_; rintro e w3 ⟨rfl, hb3⟩
    have B3 := Lib.hid (bl_tr B2.out hb3)
    clear hb3
    go_wp2
    first
      | exact ⟨rfl, B3.out⟩
      | (go_ret; exact ⟨rfl, B3.out⟩)
  · have hce : (chk kd N C wl vl cl != 0) = true := by simpa using hc
    clear h hc
    generalize chk kd N C wl vl cl = ck at *
    go_enter Try.func7, Try.ntmps7
    go_wp2_with fail
    refine (HS.out _).mono ?_; rintro e w1 ⟨rfl, hb1⟩
    have B1 := Lib.hid (bl_tr BA.out hb1)
    have Q1 := Lib.hid ((hb1.block _ (lt_hp Q0.out)).trans Q0.out)
    obtain ⟨c0, c1, c2, c3, c4, c5⟩ := box6 Q1.out
    clear hb1
    go_wp2_with fail
    refine (HC.out w1 B1.out).mono ?_; rintro e w2 ⟨rfl, hb2⟩
    have B2 := Lib.hid (bl_tr B1.out hb2)
    have Q2 := Lib.hid ((hb2.block _ (lt_hp Q1.out)).trans Q1.out)
    clear c0 c1 c2 c3 c4 c5
    obtain ⟨c0, c1, c2, c3, c4, c5⟩ := box6 Q2.out
    clear hb2
    go_wp2_with fail
    refine (HS.out _).mono ?_; rintro e w3 ⟨rfl, hb3⟩
    have B3 := Lib.hid (bl_tr B2.out hb3)
    clear hb3
    go_wp2
    first
      | exact ⟨rfl, B3.out⟩
      | (go_ret; exact ⟨rfl, B3.out⟩)
end Go.Proofs.Ytaobaiifbmhegaa

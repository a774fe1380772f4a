/-
  The reference's Better.
-/
import Derived.Test.YtaobaiifbmhegaaRc
import Derived.Test.YtaobaiifbmhegaaRcAll
namespace Go.Proofs.Ytaobaiifbmhegaa
open Go.RowKit
set_option linter.unusedVariables false
/-- what the reference's Better leaves -/
def RbP (K N C : Int) (wl vl : List Int) (cl : List (List Int)) (x : List Int) (w : World) (e : Ending) (w' : World) : Prop :=
  ((costR K N C wl vl cl x).2 ≠ 0 ∧ e = .returned (.tuple #[.slice none 0 0, .int .i64 (costR K N C wl vl cl x).2]) ∧ Below w.heap.size w w') ∨
  ((costR K N C wl vl cl x).2 = 0 ∧ ∃ g cap, e = .returned (.tuple #[.slice (some ⟨g, 0, none⟩) x.length cap, .int .i64 0]) ∧ od.Own w.heap.size g x.length cap (runR (costR K N C wl vl cl) K x.length 50 (x, (costR K N C wl vl cl x).1)).1 w w')
theorem own_ints {B g n cap : Nat} {x : List Int} {w0 wr : World} (h : od.Own B g n cap x w0 wr) : Ints wr (some ⟨g, 0, none⟩) x := fun j hj => by
  obtain ⟨b, o, e1, e2, e3⟩ := h.ints j hj
  refine ⟨b, o, e1, e2, ?_⟩
  rw [e3]; unfold od.nth; rfl
theorem own_lt {B g n cap : Nat} {x : List Int} {w0 wr : World} (h : od.Own B g n cap x w0 wr) : g < wr.heap.size := by
  obtain ⟨cur, hg⟩ := h.blk
  exact lt_hp hg
set_option maxRecDepth 100000 in
set_option maxHeartbeats 4000000 in
theorem rbet_no (K N C : Int) (wl vl : List Int) (cl : List (List Int)) (x : List Int) (wa va ca xa : Option Addr) (wc vc cc xc : Nat) (w : World) (h : Prob w wl vl cl wa va ca) (hI : Ints w xa x) (hl : x.length ≤ 1000) (hc : (costR K N C wl vl cl x).2 ≠ 0) :
    Calls Try.prog 17 #[.agg #[.int .i64 K, .int .i64 N, .int .i64 C, .slice wa wl.length wc, .slice va vl.length vc, .slice ca cl.length cc], .slice xa x.length xc] w (RbP K N C wl vl cl x w) := by
  have bA : Below w.heap.size w (w.alloc (ob K N C (.slice wa wl.length wc) (.slice va vl.length vc) (.slice ca cl.length cc))) := bl_al (Below.refl _ _) _
  have HC := Lib.hid (refCost_any K N C wl vl cl x wa va ca xa wc vc cc xc _ (h.keep bA) (hI.keep bA) hl)
  have HG : Hid (∀ W', Below w.heap.size w W' → RbP K N C wl vl cl x w (.returned (.tuple #[.slice none 0 0, .int .i64 (costR K N C wl vl cl x).2])) W') := fun W' hb => .inl ⟨hc, rfl, hb⟩
  have BA := Lib.hid bA
  unfold ob at HC BA
  clear h hI bA hl
  have hc' : ((costR K N C wl vl cl x).2 != 0) = true := by simpa using hc
  clear hc
  generalize RbP K N C wl vl cl x w = G at *
  generalize costR K N C wl vl cl x = cr at *
  obtain ⟨co, ce⟩ := cr
  simp only at HC HG hc'
  generalize x.length = n at *
  go_enter Try.func17, Try.ntmps17
  go_wp2_with fail
  refine HC.out.mono ?_; rintro e w1 ⟨rfl, hb⟩
  have B1 := Lib.hid (bl_tr BA.out hb)
  clear hb HC
  go_wp2
  exact HG.out _ B1.out
def ChP (K N C : Int) (v3 v4 v5 : Value) (n : Nat) (X : World) : Prop := ∀ (W : World) (g cap : Nat) (y : List Int) (p q : Nat), od.Own X.heap.size g n cap y X W → p < q → q < n →
  Calls Try.prog 40 #[.agg #[.int .i64 K, .int .i64 N, .int .i64 C, v3, v4, v5], .slice (some ⟨g, 0, none⟩) n cap, .int .i64 p, .int .i64 q] W
    fun e w' => ∃ g' cap', e = .returned (.slice (some ⟨g', 0, none⟩) n cap') ∧ od.Own X.heap.size g' n cap' (chg K y p q) X w' ∧ od.Own X.heap.size g n cap y X w'
def RcP (f : List Int → Int × Int) (K N C : Int) (v3 v4 v5 : Value) (n : Nat) (X : World) : Prop := ∀ (W : World) (g cap : Nat) (y : List Int), od.Own X.heap.size g n cap y X W →
  Calls Try.prog 14 #[.agg #[.int .i64 K, .int .i64 N, .int .i64 C, v3, v4, v5], .slice (some ⟨g, 0, none⟩) n cap] W
    fun e w' => e = .returned (.tuple #[.int .i64 (f y).1, .int .i64 (f y).2]) ∧ Below W.heap.size W w'
theorem chp_any (K N C : Int) (v3 v4 v5 : Value) (n : Nat) (h64 : n ≤ 64) (X : World) : ChP K N C v3 v4 v5 n X := fun W g cap y p q h hpq hq =>
  (changed_any K N C v3 v4 v5 y g 0 cap n h.1 h64 h.cap p q hpq hq W (own_lt h) (fun j hj => by rw [Nat.zero_add]; exact h.cell j hj)).mono fun e w' ⟨g', cap', e1, e2⟩ =>
    ⟨g', cap', e1, e2.down h.2.2.2 h.2.2.2.size, h.keep e2.2.2.2⟩
theorem rcp_any (K N C : Int) (wl vl : List Int) (cl : List (List Int)) (wa va ca : Option Addr) (wc vc cc n : Nat) (h64 : n ≤ 64) (X : World) (hP : Prob X wl vl cl wa va ca) : RcP (costR K N C wl vl cl) K N C (.slice wa wl.length wc) (.slice va vl.length vc) (.slice ca cl.length cc) n X := fun W g cap y h => by
  have := refCost_any K N C wl vl cl y wa va ca (some ⟨g, 0, none⟩) wc vc cc cap W (hP.keep h.2.2.2) (own_ints h) (by rw [h.1]; omega)
  rw [h.1] at this
  exact this
/-- one change of the reference: what it does to answer, cost and sign -/
def StP (f : List Int → Int × Int) (K : Int) (n : Nat) (X : World) (p0 : Int) (p : List Int × Int) (v1 v6 v9 : Value) (wr : World) : Prop :=
  ∃ g cap, v1 = .slice (some ⟨g, 0, none⟩) n cap ∧ v6 = .int .i64 p.2 ∧ v9 = .bool (decide (p.2 < p0)) ∧ od.Own X.heap.size g n cap p.1 X wr
end Go.Proofs.Ytaobaiifbmhegaa

/-
  want; where the reference's loop over the numbers stands.
-/
import Derived.Test.YtjojdpohifdghaaRp3
namespace Go.Proofs.Ytjojdpohifdghaa
open Go.RowKit
set_option linter.unusedVariables false
theorem want_knap (n : Nat) (h1 : 1 ≤ n) (h2 : n ≤ 64) (w : World) : Calls Try.prog 18 #[.string ⟨#[75, 78, 65, 80, 83, 65, 67, 75]⟩, .int .i64 n] w fun e w' => e = .returned (.int .i64 ((1 + 2 * n : Nat) : Int)) ∧ w = w' := by
  have e : ((1 + 2 * n : Nat) : Int) = 1 + 2 * (n : Int) := by omega
  rw [e]
  go_enter Try.func18, Try.ntmps18
  go_wp2
  go_ret
  exact ⟨rfl, rfl⟩
theorem nn_lt {n : Nat} (h2 : n ≤ 24) : n * n ≤ 576 := by
  have := Nat.mul_le_mul h2 h2
  omega
theorem want_asg (n : Nat) (h1 : 1 ≤ n) (h2 : n ≤ 24) (w : World) : Calls Try.prog 18 #[.string ⟨#[65, 83, 83, 73, 71, 78, 77, 69, 78, 84]⟩, .int .i64 n] w fun e w' => e = .returned (.int .i64 ((n * n : Nat) : Int)) ∧ w = w' := by
  have hb := nn_lt h2
  have e : ((n * n : Nat) : Int) = (n : Int) * (n : Int) := by push_cast; rfl
  have g : IntKind.i64.wrap ((n : Int) * (n : Int)) = (n : Int) * (n : Int) := IntWalk.i64_in _ (by omega)
  rw [e]
  go_enter Try.func18, Try.ntmps18
  go_wp2
  go_ret
  exact ⟨rfl, rfl⟩
theorem want_full (n : Nat) (h1 : 1 ≤ n) (h2 : n ≤ 24) (w : World) : Calls Try.prog 18 #[.string ⟨#[70, 85, 76, 76]⟩, .int .i64 n] w fun e w' => e = .returned (.int .i64 ((n * n : Nat) : Int)) ∧ w = w' := by
  have hb := nn_lt h2
  have e : ((n * n : Nat) : Int) = (n : Int) * (n : Int) := by push_cast; rfl
  have g : IntKind.i64.wrap ((n : Int) * (n : Int)) = (n : Int) * (n : Int) := IntWalk.i64_in _ (by omega)
  rw [e]
  go_enter Try.func18, Try.ntmps18
  go_wp2
  go_ret
  exact ⟨rfl, rfl⟩
theorem rs_tri : ∀ n : Fin 25, Int.tdiv (((n : Nat) : Int) * (((n : Nat) : Int) - 1)) 2 = ((rs n n : Nat) : Int) := by decide
theorem want_upp (n : Nat) (h1 : 1 ≤ n) (h2 : n ≤ 24) (w : World) : Calls Try.prog 18 #[.string ⟨#[85, 80, 80, 69, 82]⟩, .int .i64 n] w fun e w' => e = .returned (.int .i64 ((rs n n : Nat) : Int)) ∧ w = w' := by
  have hb := nn_lt h2
  have e := rs_tri ⟨n, by omega⟩
  simp only at e
  have e2 : (n : Int) * ((n : Int) - 1) = (n : Int) * (n : Int) - (n : Int) := by rw [Int.mul_sub, Int.mul_one]
  rw [← e, e2]
  have e3 : ((n * n : Nat) : Int) = (n : Int) * (n : Int) := by push_cast; rfl
  have g : IntKind.i64.wrap ((n : Int) * ((n : Int) - 1)) = (n : Int) * ((n : Int) - 1) := IntWalk.i64_in _ (by omega)
  go_enter Try.func18, Try.ntmps18
  go_wp2
  go_ret
  exact ⟨rfl, rfl⟩
/-- the reference's loop behind j numbers -/
structure RN (E : Nat → Tok → Int) (s : ByteArray) (T : List Tok) (w : World) (q g cap p0 : Nat) (w2 : World) (B j : Nat) (vN : Value) (wr : World) : Prop where
  r2 : RH s T w q g cap w2
  hB : B = w2.heap.size
  bel : Below B w2 wr
  row : wr.ownsRow B 3 1 vN j (enc (nmL T p0 j))
  ok : ∀ i, i < j → E i (tk T (p0 + i)) = 0
  sz : B ≤ wr.heap.size
theorem RN.rh {E : Nat → Tok → Int} {s : ByteArray} {T : List Tok} {w : World} {q g cap p0 : Nat} {w2 : World} {B j : Nat} {vN : Value} {wr : World} (h : RN E s T w q g cap p0 w2 B j vN wr) : RH s T w q g cap wr := by
  have hb := h.bel
  rw [h.hB] at hb
  exact h.r2.up hb
theorem RN.alloc {E : Nat → Tok → Int} {s : ByteArray} {T : List Tok} {w : World} {q g cap p0 : Nat} {w2 : World} {B j : Nat} {vN : Value} {wr : World} (h : RN E s T w q g cap p0 w2 B j vN wr) (o : Obj) : RN E s T w q g cap p0 w2 B j vN (wr.alloc o) :=
  ⟨h.r2, h.hB, h.bel.alloc h.sz o, h.row.alloc o, h.ok, by have := h.sz; simp; omega⟩
theorem RN.app {E : Nat → Tok → Int} {s : ByteArray} {T : List Tok} {w : World} {q g cap p0 : Nat} {w2 : World} {B j : Nat} {vN v2 : Value} {wr w4 : World} {nu : Int} {o : Obj} (h : RN E s T w q g cap p0 w2 B j vN wr) (hn : nmL T p0 (j + 1) = nmL T p0 j ++ [nu])
    (hown : w4.ownsRow B 3 1 v2 (j + 1) (enc (nmL T p0 j) ++ [.int .i64 nu])) (hg : (wr.alloc o).grownBy w4 vN.ownBlock) (ok : ∀ i, i < j + 1 → E i (tk T (p0 + i)) = 0) : RN E s T w q g cap p0 w2 B (j + 1) v2 w4 := by
  have hb := h.bel
  have hr := h.row
  have hz := h.sz
  rw [h.hB] at hb hr
  refine ⟨h.r2, h.hB, by rw [h.hB]; exact below_app hb hr hg, by rw [hn, enc_app]; exact hown, ok, Nat.le_trans hz (Nat.le_trans (by simp) hg.size)⟩
/-- what is told where all is right -/
def PGasg (T : List Tok) (n : Nat) : PRes := .ok 2 n 0 [] [] (tab n (MA T 2 n))
def PGfull (T : List Tok) (n : Nat) : PRes := .ok 3 n 0 [] [] (tab n (MA T 3 n))
def PGupp (T : List Tok) (n : Nat) : PRes := .ok 3 n 0 [] [] (tab n (MU T n))
def PGknap (T : List Tok) (n : Nat) : PRes := .ok 1 n (tk T 2).num (kWl T n) (kVl T n) []
theorem pg_asg {T : List Tok} {n : Nat} (h0 : (tk T 0).kind = 1) (hw : (tk T 0).text = nm2) (h : (tk T 1).kind = 2) (hn : (tk T 1).num = n) (h1 : 1 ≤ n) (h2 : n ≤ 24) (ok : ∀ i, i < n * n → eK i (tk T (2 + i)) = 0) (hk : (tk T (2 + n * n)).kind = 3) : PR T = PGasg T n := by
  have hf := pr_good (ps_asg h0 hw h hn h1 h2) ok hk
  have e : (tk T 1).num.toNat = n := by omega
  unfold PR
  rw [if_neg (by rw [hf]; simp), hw, idx_2, if_pos rfl, e]
  rfl
theorem pg_knap {T : List Tok} {n : Nat} (h0 : (tk T 0).kind = 1) (hw : (tk T 0).text = nm1) (h : (tk T 1).kind = 2) (hn : (tk T 1).num = n) (h1 : 1 ≤ n) (h2 : n ≤ 64) (ok : ∀ i, i < 1 + 2 * n → eK i (tk T (2 + i)) = 0) (hk : (tk T (2 + (1 + 2 * n))).kind = 3) : PR T = PGknap T n := by
  have hf := pr_good (ps_knap h0 hw h hn h1 h2) ok hk
  have e : (tk T 1).num.toNat = n := by omega
  unfold PR
  rw [if_neg (by rw [hf]; simp), hw, idx_1, if_neg (by decide), if_neg (by decide), e]
  rfl
theorem pg_full {T : List Tok} {n : Nat} (h0 : (tk T 0).kind = 1) (hw : (tk T 0).text = nm3) (h : (tk T 1).kind = 2) (hn : (tk T 1).num = n) (h1 : 1 ≤ n) (h2 : n ≤ 24) (h3 : ¬ (tk T 2).kind = 3) (h4 : (tk T 2).text = wFull) (ok : ∀ i, i < n * n → fE n i (tk T (3 + i)) = 0) (hk : (tk T (3 + n * n)).kind = 3) : PR T = PGfull T n := by
  have hf := pr_good (ps_full h0 hw h hn h1 h2 h3 h4) ok hk
  have e : (tk T 1).num.toNat = n := by omega
  unfold PR
  rw [if_neg (by rw [hf]; simp), hw, idx_3, if_neg (by decide), if_pos rfl, h4, idx2_f, if_pos rfl, e]
  rfl
theorem pg_upp {T : List Tok} {n : Nat} (h0 : (tk T 0).kind = 1) (hw : (tk T 0).text = nm3) (h : (tk T 1).kind = 2) (hn : (tk T 1).num = n) (h1 : 1 ≤ n) (h2 : n ≤ 24) (h3 : ¬ (tk T 2).kind = 3) (h4 : (tk T 2).text = wUpper) (ok : ∀ i, i < rs n n → eK i (tk T (3 + i)) = 0) (hk : (tk T (3 + rs n n)).kind = 3) : PR T = PGupp T n := by
  have hf := pr_good (ps_upper h0 hw h hn h1 h2 h3 h4) ok hk
  have e : (tk T 1).num.toNat = n := by omega
  unfold PR
  rw [if_neg (by rw [hf]; simp), hw, idx_3, if_neg (by decide), if_pos rfl, h4, idx2_u, if_neg (by decide), e]
  rfl
theorem rs_b : ∀ n : Fin 25, rs n n ≤ 300 := by decide
end Go.Proofs.Ytjojdpohifdghaa

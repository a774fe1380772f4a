/-
  greedy: a search's box; a change of a pair.
-/
import Derived.Test.YtaobaiifbmhegaaGm
import Derived.Test.YtaobaiifbmhegaaRv
import Derived.Test.YtaobaiifbmhegaaCost
import Derived.Test.YtaobaiifbmhegaaKb
namespace Go.Proofs.Ytaobaiifbmhegaa
open Go.RowKit
set_option linter.unusedVariables false
/-- a search in memory: its box, and its answer in a block of its own -/
structure Sr (B gS gx n cap : Nat) (K N C : Int) (v3 v4 v5 : Value) (x : List Int) (c : Int) (w0 wr : World) : Prop where
  own : od.Own B gx n cap x w0 wr
  low : B ≤ gS
  blk : wr.heap[gS]? = some (.cells #[.int .i64 K, .int .i64 N, .int .i64 C, v3, v4, v5, .slice (some ⟨gx, 0, none⟩) n cap, .int .i64 c] 52 (0, 0))
theorem Sr.ne {B gS gx n cap : Nat} {K N C : Int} {v3 v4 v5 : Value} {x : List Int} {c : Int} {w0 wr : World} (h : Sr B gS gx n cap K N C v3 v4 v5 x c w0 wr) : gS ≠ gx := by
  obtain ⟨cur, hg⟩ := h.own.blk
  exact blk_ne h.blk hg (by decide)
theorem Sr.cells {B gS gx n cap : Nat} {K N C : Int} {v3 v4 v5 : Value} {x : List Int} {c : Int} {w0 wr : World} (h : Sr B gS gx n cap K N C v3 v4 v5 x c w0 wr) :
    wr.cell? ⟨gS, 0, none⟩ = some (.int .i64 K) ∧ wr.cell? ⟨gS, 1, none⟩ = some (.int .i64 N) ∧ wr.cell? ⟨gS, 2, none⟩ = some (.int .i64 C) ∧ wr.cell? ⟨gS, 3, none⟩ = some v3 ∧ wr.cell? ⟨gS, 4, none⟩ = some v4 ∧ wr.cell? ⟨gS, 5, none⟩ = some v5 ∧ wr.cell? ⟨gS, 6, none⟩ = some (.slice (some ⟨gx, 0, none⟩) n cap) ∧ wr.cell? ⟨gS, 7, none⟩ = some (.int .i64 c) := by
  refine ⟨?_, ?_, ?_, ?_, ?_, ?_, ?_, ?_⟩ <;> simp [World.cell?, h.blk]
theorem Sr.froz {B gS gx n cap : Nat} {K N C : Int} {v3 v4 v5 : Value} {x : List Int} {c : Int} {w0 wr : World} (h : Sr B gS gx n cap K N C v3 v4 v5 x c w0 wr) (j : Nat) : wr.frozen? ⟨gS, j, none⟩ = false := by
  simp [World.frozen?, h.blk]
theorem Sr.keep {B gS gx n cap : Nat} {K N C : Int} {v3 v4 v5 : Value} {x : List Int} {c : Int} {w0 wr w1 : World} (h : Sr B gS gx n cap K N C v3 v4 v5 x c w0 wr) (hb : Below wr.heap.size wr w1) : Sr B gS gx n cap K N C v3 v4 v5 x c w0 w1 :=
  ⟨h.own.keep hb, h.low, (hb.block _ (lt_hp h.blk)).trans h.blk⟩
theorem Sr.sw {B gS gx n cap : Nat} {K N C : Int} {v3 v4 v5 : Value} {x : List Int} {c : Int} {w0 wr : World} (h : Sr B gS gx n cap K N C v3 v4 v5 x c w0 wr) (i j : Nat) :
    Sr B gS gx n cap K N C v3 v4 v5 (od.sw x i j) c w0 ((wr.setCell ⟨gx, i, none⟩ (.int .i64 (od.nth x j))).setCell ⟨gx, j, none⟩ (.int .i64 (od.nth x i))) :=
  ⟨h.own.sw i j, h.low, kn.blk_oth (kn.blk_oth h.blk h.ne _ _) h.ne _ _⟩
theorem Sr.turn {B gS gx n cap : Nat} {K N C : Int} {v3 v4 v5 : Value} {x y : List Int} {c : Int} {w0 wr w1 : World} (h : Sr B gS gx n cap K N C v3 v4 v5 x c w0 wr) (ho : od.Own B gx n cap y w0 w1) (ha : od.Aside gx wr w1) : Sr B gS gx n cap K N C v3 v4 v5 y c w0 w1 :=
  ⟨ho, h.low, (ha.block _ (lt_hp h.blk) h.ne).trans h.blk⟩
theorem Sr.cost {B gS gx n cap : Nat} {K N C : Int} {v3 v4 v5 : Value} {x : List Int} {c : Int} {w0 wr : World} (h : Sr B gS gx n cap K N C v3 v4 v5 x c w0 wr) (d : Int) : Sr B gS gx n cap K N C v3 v4 v5 x d w0 (wr.setCell ⟨gS, 7, none⟩ (.int .i64 d)) :=
  ⟨h.own.same (Below.heap_setCell wr ⟨gS, 7, none⟩ _ gx (fun e => h.ne e.symm)) (h.own.2.2.2.setCell (p := ⟨gS, 7, none⟩) h.low _), h.low, by rw [heap_setCell_same wr gS 7 _ _ _ h.blk]; rfl⟩
theorem Sr.bel {B gS gx n cap : Nat} {K N C : Int} {v3 v4 v5 : Value} {x : List Int} {c : Int} {w0 wr : World} (h : Sr B gS gx n cap K N C v3 v4 v5 x c w0 wr) : Below B w0 wr := h.own.2.2.2
theorem Sr.ints {B gS gx n cap : Nat} {K N C : Int} {v3 v4 v5 : Value} {x : List Int} {c : Int} {w0 wr : World} (h : Sr B gS gx n cap K N C v3 v4 v5 x c w0 wr) : Ints wr (some ⟨gx, 0, none⟩) x := fun j hj => by
  obtain ⟨b, o, e1, e2, e3⟩ := h.own.ints j hj
  refine ⟨b, o, e1, e2, ?_⟩
  rw [e3]; unfold od.nth; rfl
set_option maxRecDepth 100000 in
set_option maxHeartbeats 4000000 in
theorem change_any (B gS gx n cap : Nat) (K N C : Int) (v3 v4 v5 : Value) (x : List Int) (c : Int) (w0 w : World) (h : Sr B gS gx n cap K N C v3 v4 v5 x c w0 w) (hn : n ≤ 1000) (a b : Nat) (hab : a < b) (hb : b < n) :
    Calls Try.prog 88 #[.pointer (some ⟨gS, 0, none⟩), .int .i64 a, .int .i64 b] w fun e w' => e = .returned (.tuple #[]) ∧ Sr B gS gx n cap K N C v3 v4 v5 (chg K x a b) c w0 w' := by
  have HS := Lib.hid h
  have hcap := h.own.cap
  have hl := h.own.1
  obtain ⟨c0, c1, c2, c3, c4, c5, c6, c7⟩ := h.cells
  have f1 := h.own.frozen a
  have f2 := h.own.frozen b
  by_cases h3 : K = 3
  · subst h3
    rw [chg_tour]
    have HR := Lib.hid (od.reverse_all B gx n cap x w0 a (b + 1 - a) (cap - a) (by omega) (by omega) hn (by omega) w h.own)
    obtain ⟨m, hm⟩ : ∃ m, m = b + 1 - a := ⟨_, rfl⟩
    rw [← hm] at HR ⊢
    have i1 : ((b : Int) + 1) - a = (m : Int) := by omega
    have i2 : (a : Int) ≤ (b : Int) + 1 := by omega
    have i3 : (b : Int) + 1 ≤ (cap : Int) := by omega
    have SL : ∀ W : World, (Instr.slice 22 (.slice (some ⟨gx, 0, none⟩) n cap) (some (.int .i64 a)) (some (.int .i64 ((b : Int) + 1))) none).run Try.prog W = .ok (.slice (some ⟨gx, a, none⟩) m (cap - a)) W := fun W => by
      have q1 : ¬ (b : Int) + 1 < (a : Int) := by omega
      have q2 : ¬ (cap : Int) < (b : Int) + 1 := by omega
      have q3 : (a : Int) ≤ (cap : Int) := by omega
      have q4 : (0 : Int) ≤ (b : Int) + 1 := by omega
      have q5 : ((b : Int) + 1).toNat = b + 1 := by omega
      go_simp
      omega
    clear h hm i1 i2 i3 f1 f2
    go_enter Try.func88, Try.ntmps88
    go_wp2_with fail
    refine HR.out.mono ?_; rintro e w1 ⟨rfl, ho, ha⟩
    have HO := Lib.hid (HS.out.turn ho ha)
    clear ho ha c0 c1 c2 c3 c4 c5 c6 c7
    go_wp2
    refine bodyPost_ret (results_none rfl _ _ _) rfl ?_
    exact ⟨rfl, HO.out⟩
  · rw [chg_other h3]
    have e1 := h.own.cell a (by omega)
    have e2 := h.own.cell b hb
    have g6 : a ≠ b := by omega
    have HN : Hid (∀ W, Sr B gS gx n cap K N C v3 v4 v5 x c w0 W → Sr B gS gx n cap K N C v3 v4 v5 (od.sw x a b) c w0 ((W.setCell ⟨gx, a, none⟩ (.int .i64 (od.nth x b))).setCell ⟨gx, b, none⟩ (.int .i64 (od.nth x a)))) := fun W h => h.sw a b
    have h3' : (K == 3) = false := by simpa using h3
    have b1 : (0 : Int) ≤ (a : Int) := by omega
    have b2 : (a : Int) < (n : Int) := by omega
    have b3 : (0 : Int) ≤ (b : Int) := by omega
    have b4 : (b : Int) < (n : Int) := by omega
    have n1 := h.ne
    clear h hl
    generalize od.nth x b = y at *
    generalize od.nth x a = z at *
    go_enter Try.func88, Try.ntmps88
    go_wp2
    go_region
    all_goals
      go_wp2
      go_end0
      exact ⟨rfl, HN.out _ (HS.out.keep (od.bl_drew _))⟩
end Go.Proofs.Ytaobaiifbmhegaa

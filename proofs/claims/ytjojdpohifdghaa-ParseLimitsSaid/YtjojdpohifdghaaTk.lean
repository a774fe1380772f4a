/-
  Tokens in memory; what the reference's kind and the package's follows answer.
-/
import Derived.Test.YtjojdpohifdghaaLexM
import Derived.OwnWalk
import Derived.Laws.AppendOwn
import Derived.Laws.OwnMore
import Derived.Deep.AppendLies
import Derived.Maps.AppendAt
namespace Go.Proofs.Ytjojdpohifdghaa
open Go.RowKit
set_option linter.unusedVariables false
def encT (t : Tok) : List Value := [.int .i64 t.kind, .string t.text, .int .i64 t.num, .int .i64 t.at_]
def encL (l : List Tok) : List Value := l.flatMap encT
theorem encL_app (l : List Tok) (t : Tok) : encL (l ++ [t]) = encL l ++ encT t := by simp [encL]
theorem encL_nil : encL [] = [] := rfl
theorem infoR : (Try.prog.info? 51).map (fun i => (i.zero, i.size, i.bytes)) = some (some (.agg #[.int .i64 0, .string ⟨#[]⟩, .int .i64 0, .int .i64 0]), 4, 40) := by kernel_rfl
theorem infoL : (Try.prog.info? 47).map (fun i => (i.zero, i.size, i.bytes)) = some (some (.agg #[.int .i64 0, .string ⟨#[]⟩, .int .i64 0, .int .i64 0]), 4, 40) := by kernel_rfl
set_option maxHeartbeats 2000000 in
theorem refkind_any (c : Nat) (hc : c < 256) (w : World) : Calls Try.prog 32 #[.int .u8 c] w fun e w' => e = .returned (.int .i64 (kindv (c : Int))) ∧ w = w' := by
  by_cases hb : c = 32 ∨ c = 9 ∨ c = 10 ∨ c = 13
  · have hk : kindv (c : Int) = 1 := by unfold kindv; rw [if_pos (by omega)]
    rw [hk]
    rcases hb with rfl | rfl | rfl | rfl
    all_goals
      go_enter Try.func32, Try.ntmps32
      go_wp2
      go_ret
      exact ⟨rfl, rfl⟩
  · have b1 : ((c : Int) == 32) = false := by simp; omega
    have b2 : ((c : Int) == 9) = false := by simp; omega
    have b3 : ((c : Int) == 10) = false := by simp; omega
    have b4 : ((c : Int) == 13) = false := by simp; omega
    by_cases hd : 48 ≤ (c : Int) ∧ (c : Int) ≤ 57
    · have hk : kindv (c : Int) = 2 := by unfold kindv; rw [if_neg (by omega), if_pos hd]
      obtain ⟨d1, d2⟩ := hd
      rw [hk]; clear hk hb
      go_enter Try.func32, Try.ntmps32
      go_wp2
      go_ret
      exact ⟨rfl, rfl⟩
    · by_cases hl : (65 ≤ (c : Int) ∧ (c : Int) ≤ 90) ∨ (97 ≤ (c : Int) ∧ (c : Int) ≤ 122)
      · have hk : kindv (c : Int) = 3 := by unfold kindv; rw [if_neg (by omega), if_neg hd, if_pos hl]
        rw [hk]; clear hk hb
        have hd' : ¬ (c : Int) < 48 := by omega
        have hd2 : ¬ (c : Int) ≤ 57 := by omega
        clear hd
        rcases hl with ⟨l1, l2⟩ | ⟨l1, l2⟩
        · go_enter Try.func32, Try.ntmps32
          go_wp2
          go_ret
          exact ⟨rfl, rfl⟩
        · have l3 : ¬ (c : Int) ≤ 90 := by omega
          go_enter Try.func32, Try.ntmps32
          go_wp2
          go_ret
          exact ⟨rfl, rfl⟩
      · by_cases hr : (c : Int) = 35
        · have hk : kindv (c : Int) = 4 := by unfold kindv; rw [if_neg (by omega), if_neg hd, if_neg hl, if_pos hr]
          obtain rfl : c = 35 := by omega
          rw [hk]; clear hk hb hd hl hr b1 b2 b3 b4
          go_enter Try.func32, Try.ntmps32
          go_wp2
          go_ret
          exact ⟨rfl, rfl⟩
        · have hk : kindv (c : Int) = 0 := by unfold kindv; rw [if_neg (by omega), if_neg hd, if_neg hl, if_neg hr]
          have b5 : ((c : Int) == 35) = false := by simp; omega
          rw [hk]; clear hk hb hr
          by_cases q1 : (c : Int) < 48
          · clear hd hl
            go_enter Try.func32, Try.ntmps32
            go_wp2
            go_ret
            exact ⟨rfl, rfl⟩
          · have q2 : 57 < (c : Int) := by omega
            by_cases q3 : (c : Int) < 65
            · clear hd hl
              go_enter Try.func32, Try.ntmps32
              go_wp2
              go_ret
              exact ⟨rfl, rfl⟩
            · have q4 : 90 < (c : Int) := by omega
              by_cases q5 : (c : Int) < 97
              · clear hd hl
                go_enter Try.func32, Try.ntmps32
                go_wp2
                go_ret
                exact ⟨rfl, rfl⟩
              · have q6 : 122 < (c : Int) := by omega
                clear hd hl
                go_enter Try.func32, Try.ntmps32
                go_wp2
                go_ret
                exact ⟨rfl, rfl⟩
/-- may a sign of a kind stand behind one of another? -/
def fol (a k : Int) : Bool := if k = 0 then false else if k = 3 then decide (a ≠ 2) else if k = 2 then decide (a ≠ 3) else true
theorem follows_any (a k : Int) (ha : a = 1 ∨ a = 2 ∨ a = 3 ∨ a = 4) (hk : k = 0 ∨ k = 1 ∨ k = 2 ∨ k = 3 ∨ k = 4) (w : World) : Calls Try.prog 24 #[.int .i64 a, .int .i64 k] w fun e w' => e = .returned (.bool (fol a k)) ∧ w = w' := by
  rcases ha with rfl | rfl | rfl | rfl <;> rcases hk with rfl | rfl | rfl | rfl | rfl
  all_goals
    go_enter Try.func24, Try.ntmps24
    go_wp2
    go_ret
    exact ⟨rfl, rfl⟩
end Go.Proofs.Ytjojdpohifdghaa

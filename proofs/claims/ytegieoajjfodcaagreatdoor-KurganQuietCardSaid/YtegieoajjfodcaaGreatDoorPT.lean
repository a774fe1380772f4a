/-
  The problem that a row of tokens tells, or what is wrong with it, and where.
-/
import Derived.Test.YtegieoajjfodcaaGreatDoorRSM
import Derived.Test.YtegieoajjfodcaaGreatDoorInBase
namespace Go.Proofs.YtegieoajjfodcaaGreatDoor
open Go.RowKit
set_option linter.unusedVariables false
def nm1 : ByteArray := ⟨#[75, 78, 65, 80, 83, 65, 67, 75]⟩
def nm2 : ByteArray := ⟨#[65, 83, 83, 73, 71, 78, 77, 69, 78, 84]⟩
def nm3 : ByteArray := ⟨#[84, 83, 80]⟩
def wFull : ByteArray := ⟨#[70, 85, 76, 76]⟩
def wUpper : ByteArray := ⟨#[85, 80, 80, 69, 82]⟩
/-- which of three, of two texts -/
def idx3 (x : ByteArray) : Int := if x = nm1 then 0 else if x = nm2 then 1 else if x = nm3 then 2 else -1
def idx2 (x : ByteArray) : Int := if x = wFull then 0 else if x = wUpper then 1 else -1
/-- what is wrong with a token where a word must stand -/
def wf (t : Tok) (i : Int) : Int := if t.kind = 3 then 6 else if i < 0 then 3 else 0
/-- what is wrong with a token of a table that is written in full -/
def fE (n : Nat) (k : Nat) (t : Tok) : Int := if k % (n + 1) = 0 then zf t else eE t
def eK (k : Nat) (t : Tok) : Int := eE t
/-- where a row's numbers begin, above the middle -/
def rs (n : Nat) : Nat → Nat
  | 0 => 0
  | a + 1 => rs n a + (n - 1 - a)
/-- the state behind n, and n -/
def sz (T : List Tok) (s : St) (most : Int) : St := adv s (sf (tk T s.p) most)
def nOf (T : List Tok) (s : St) (most : Int) : Nat := if s.f = 0 ∧ sf (tk T s.p) most = 0 then (tk T s.p).num.toNat else 0
def s1 (T : List Tok) : St := adv ⟨0, 0⟩ (wf (tk T 0) (idx3 (tk T 0).text))
def s3 (T : List Tok) (s : St) : St := adv s (wf (tk T s.p) (idx2 (tk T s.p).text))
def kSt (T : List Tok) (s : St) : St := steps eK T (sz T s 64) (1 + 2 * nOf T s 64)
def aSt (T : List Tok) (s : St) : St := steps eK T (sz T s 24) (nOf T s 24 * nOf T s 24)
def tSt (T : List Tok) (s : St) : St :=
  if idx2 (tk T (sz T s 24).p).text = 0 then steps (fE (nOf T s 24)) T (s3 T (sz T s 24)) (nOf T s 24 * nOf T s 24)
  else steps eK T (s3 T (sz T s 24)) (rs (nOf T s 24) (nOf T s 24))
/-- where the reader is behind a problem -/
def PS (T : List Tok) : St := if idx3 (tk T 0).text = 1 then aSt T (s1 T) else if idx3 (tk T 0).text = 2 then tSt T (s1 T) else kSt T (s1 T)
inductive PRes where
  | ok (K : Int) (N : Nat) (C : Int) (wl vl : List Int) (cl : List (List Int))
  | bad (p : Nat) (e : Int)
/-- a table of numbers -/
def tab (n : Nat) (M : Nat → Nat → Int) : List (List Int) := (List.range n).map fun a => (List.range n).map fun b => M a b
def kWl (T : List Tok) (n : Nat) : List Int := (List.range n).map fun j => (tk T (2 + (1 + 2 * j))).num
def kVl (T : List Tok) (n : Nat) : List Int := (List.range n).map fun j => (tk T (2 + (2 + 2 * j))).num
def MA (T : List Tok) (p n a b : Nat) : Int := (tk T (p + (a * n + b))).num
def MU (T : List Tok) (n a b : Nat) : Int := if a = b then 0 else if a < b then (tk T (3 + (rs n a + (b - a - 1)))).num else (tk T (3 + (rs n b + (a - b - 1)))).num
/-- what a row of tokens tells -/
def PR (T : List Tok) : PRes :=
  if (fin T (PS T)).f ≠ 0 then .bad (tk T (fin T (PS T)).p).at_ (fin T (PS T)).f
  else if idx3 (tk T 0).text = 1 then .ok 2 (tk T 1).num.toNat 0 [] [] (tab (tk T 1).num.toNat (MA T 2 (tk T 1).num.toNat))
  else if idx3 (tk T 0).text = 2 then
    (if idx2 (tk T 2).text = 0 then .ok 3 (tk T 1).num.toNat 0 [] [] (tab (tk T 1).num.toNat (MA T 3 (tk T 1).num.toNat))
     else .ok 3 (tk T 1).num.toNat 0 [] [] (tab (tk T 1).num.toNat (MU T (tk T 1).num.toNat)))
  else .ok 1 (tk T 1).num.toNat (tk T 2).num (kWl T (tk T 1).num.toNat) (kVl T (tk T 1).num.toNat) []
theorem fin_bad {T : List Tok} {s : St} (h : s.f ≠ 0) : fin T s = s := by unfold fin; split; rfl; exact adv_bad h 7
theorem fin_ok {T : List Tok} {s : St} (h : (fin T s).f = 0) : s.f = 0 ∧ fin T s = s ∧ (tk T s.p).kind = 3 := by
  unfold fin at h ⊢
  split at h
  · rename_i q; rw [if_pos q]; exact ⟨h, rfl, q⟩
  · exfalso
    by_cases hf : s.f = 0
    · rw [adv_err hf (by decide)] at h; exact absurd (show (7 : Int) = 0 from h) (by decide)
    · rw [adv_bad hf] at h; exact hf h
theorem adv_zero {s : St} {e : Int} (h : (adv s e).f = 0) : s.f = 0 ∧ e = 0 := by
  by_cases hf : s.f = 0
  · by_cases he : e = 0
    · exact ⟨hf, he⟩
    · rw [adv_err hf he] at h; exact absurd h he
  · rw [adv_bad hf] at h; exact absurd h hf
/-- steps that end with no fault met none -/
theorem steps_zero (E : Nat → Tok → Int) (T : List Tok) (s : St) : ∀ k, (steps E T s k).f = 0 → s.f = 0 ∧ steps E T s k = ⟨s.p + k, 0⟩ ∧ ∀ j, j < k → E j (tk T (s.p + j)) = 0 ∧ steps E T s j = ⟨s.p + j, 0⟩
  | 0, h => ⟨h, (by cases s; rename_i p f; obtain rfl : f = 0 := h; rfl), fun j hj => absurd hj (by omega)⟩
  | k + 1, h => by
    rw [steps_succ] at h ⊢
    obtain ⟨h1, h2⟩ := adv_zero h
    obtain ⟨a, b, c⟩ := steps_zero E T s k h1
    rw [b] at h2 ⊢
    refine ⟨a, by rw [h2]; exact adv_ok rfl, fun j hj => ?_⟩
    by_cases q : j < k
    · exact c j q
    · obtain rfl : j = k := by omega
      exact ⟨h2, b⟩
end Go.Proofs.YtegieoajjfodcaaGreatDoor

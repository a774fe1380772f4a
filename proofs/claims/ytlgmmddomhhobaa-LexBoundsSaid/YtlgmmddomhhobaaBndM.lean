/-
  What a text of blanks, a word and a number of so many signs tell.
-/
import Derived.Test.YtlgmmddomhhobaaEndsL
namespace Go.Proofs.Ytlgmmddomhhobaa
open Go.RowKit
set_option linter.unusedVariables false
/-- place and error -/
def tst : Res → Int × Int
  | .ok _ => (0, 0)
  | .bad p e => (p, e)
def blank (n : Nat) : ByteArray := ⟨(List.replicate n (32 : UInt8)).toArray⟩
def rep (c : UInt8) (k : Nat) : ByteArray := ⟨(List.replicate k c).toArray⟩
theorem rep_size (c : UInt8) (k : Nat) : (rep c k).size = k := by show (List.replicate k c).toArray.size = k; simp
theorem rep_succ (c : UInt8) (k : Nat) : rep c k ++ ⟨#[c]⟩ = rep c (k + 1) := by
  apply ByteArray.ext
  show ((rep c k) ++ (⟨#[c]⟩ : ByteArray)).data = (List.replicate (k + 1) c).toArray
  rw [ByteArray.data_append, List.replicate_succ']
  apply Array.toList_inj.1
  simp only [rep, Array.toList_append]
theorem blank_size (n : Nat) : (blank n).size = n := rep_size 32 n
theorem kb_blank (n p : Nat) (h : p < n) : kb (blank n) p = 1 := by
  have h2 : p < (blank n).size := by rw [blank_size]; exact h
  rw [kb_of h2]
  have : (blank n)[p]'h2 = 32 := by
    show (List.replicate n (32 : UInt8)).toArray[p]'_ = 32
    simp
  rw [this]; rfl
theorem sp_blank (n : Nat) : ∀ (b p : Nat), n - p ≤ b → SP (blank n) p [] = .ok [⟨3, noText, 0, n⟩]
  | 0, p, h => by rw [SP_end (by rw [blank_size]; omega), blank_size]; rfl
  | b + 1, p, h => by
    by_cases hp : p < n
    · rw [SP_blank (by rw [blank_size]; exact hp) (kb_blank n p hp)]; exact sp_blank n b (p + 1) (by omega)
    · rw [SP_end (by rw [blank_size]; omega), blank_size]; rfl
theorem words : ∀ k : Fin 21, tst (SP (⟨#[32]⟩ ++ rep 107 k.val) 0 []) = if k.val ≤ 16 then (0, 0) else (1, 5) := by decide +kernel
theorem numbers : ∀ k : Fin 23, k.val = 0 ∨ tst (SP (⟨#[32, 32]⟩ ++ rep 55 k.val) 0 []) = if k.val ≤ 18 then (0, 0) else (2, 5) := by decide +kernel
theorem scan_tst (s : ByteArray) (hs : s.size ≤ 65536) (p e : Int) (h : tst (SP s 0 []) = (p, e)) (w : World) : Calls Try.prog 8 #[.string s] w fun en w' => ∃ v, en = .returned (.tuple #[v, .int .i64 p, .int .i64 e]) ∧ Below w.heap.size w w' := by
  refine (scan_any s hs w).mono ?_
  intro en w' q
  cases hr : SP s 0 [] with
  | ok l =>
    rw [hr] at q h; obtain ⟨v, h1, h2, h3⟩ := q
    injection h with ha hb; subst ha hb
    exact ⟨v, h1, h3⟩
  | bad r er =>
    rw [hr] at q h; obtain ⟨h1, h3⟩ := q
    injection h with ha hb; subst ha hb
    exact ⟨_, h1, h3⟩
theorem scan_blank (n : Nat) (p e : Int) (hp : p = 0) (he : e = if n ≤ 65536 then 0 else 5) (w : World) : Calls Try.prog 8 #[.string (blank n)] w fun en w' => ∃ v, en = .returned (.tuple #[v, .int .i64 p, .int .i64 e]) ∧ Below w.heap.size w w' := by
  subst hp
  by_cases h : n ≤ 65536
  · rw [if_pos h] at he; subst he
    exact scan_tst _ (by rw [blank_size]; exact h) _ _ (by rw [sp_blank n _ 0 (Nat.le_refl _)]; rfl) w
  · rw [if_neg h] at he; subst he
    refine (scan_long _ (by rw [blank_size]; omega) w).mono ?_
    rintro en w' ⟨h1, rfl⟩
    exact ⟨_, h1, Below.refl _ _⟩
/-- a row of so many blanks, the first ones laid -/
def bl (n k : Nat) : Array Value := (List.replicate k (Value.int .u8 32) ++ List.replicate (n - k) (Value.int .u8 0)).toArray
theorem bl_set (n k : Nat) (h : k < n) : (bl n k).setIfInBounds k (.int .u8 32) = bl n (k + 1) := by
  unfold bl
  rw [List.setIfInBounds_toArray]
  congr 1
  rw [List.set_append_right _ _ (by simp), List.length_replicate, Nat.sub_self]
  obtain ⟨m, hm⟩ : ∃ m, n - k = m + 1 := ⟨n - k - 1, by omega⟩
  rw [hm, show n - (k + 1) = m by omega, List.replicate_succ, List.set_cons_zero, List.replicate_succ', List.append_assoc]
  rfl
theorem bl_zero (n : Nat) : bl n 0 = (List.replicate n (Value.int .u8 0)).toArray := by simp [bl]
theorem bl_full (n : Nat) : bl n n = (List.replicate n (Value.int .u8 32)).toArray := by simp [bl]
theorem bl_size (n k : Nat) (h : k ≤ n) : (bl n k).size = n := by simp [bl]; omega
theorem bl_cell {W : World} {g n k : Nat} (h : W.heap[g]? = some (.cells (bl n k) 5 (0, 0))) (hk : k < n) : W.cell? ⟨g, k, none⟩ = some (.int .u8 0) ∧ W.frozen? ⟨g, k, none⟩ = false := by
  refine ⟨?_, by simp [World.frozen?, h]⟩
  simp only [World.cell?, h]
  unfold bl
  have h0 : 0 < n - k := by omega
  simp [h0]
end Go.Proofs.Ytlgmmddomhhobaa

/-
  What the reference's Scan answers.
-/
import Derived.Test.YtegieoajjfodcaaGreatDoorTk
namespace Go.Proofs.YtegieoajjfodcaaGreatDoor
open Go.RowKit
set_option linter.unusedVariables false
theorem kb_of {s : ByteArray} {p : Nat} (h : p < s.size) : kb s p = kindv ((s[p]'h).toNat : Int) := by unfold kb; rw [get_of s p h]
theorem isd_kb (s t : ByteArray) (p k : Nat) (hp : p ≤ s.size) (ht : s.extract p s.size = t) : isd t k ↔ (p + k < s.size ∧ kb s (p + k) = 2) := by
  have hz : t.size = s.size - p := by rw [← ht]; simp
  constructor
  · intro h
    have hlt := isd_lt h
    refine ⟨by omega, ?_⟩
    unfold isd at h
    unfold kb
    rw [kindv_digit, ← get_subk s p k (by omega), ht]
    omega
  · rintro ⟨h1, h2⟩
    unfold kb at h2
    rw [kindv_digit, ← get_subk s p k h1, ht] at h2
    unfold isd
    omega
theorem run_ndf (s t : ByteArray) (p : Nat) (hp : p ≤ s.size) (ht : s.extract p s.size = t) : ∀ b k, t.size - k ≤ b → run 2 s (p + k) = p + ndf t b k
  | 0, k, h => by
    have hz : t.size = s.size - p := by rw [← ht]; simp
    rw [run_out (by omega)]
    have : ndf t 0 k = k := by
      by_cases q : isd t k
      · have := isd_lt q; omega
      · exact ndf_end t 0 k q
    rw [this]
  | b + 1, k, h => by
    by_cases q : isd t k
    · obtain ⟨h1, h2⟩ := (isd_kb s t p k hp ht).1 q
      rw [run_in h1 h2, ndf_step t b k q]
      have := run_ndf s t p hp ht b (k + 1) (by omega)
      rw [← this]; rfl
    · rw [run_out (fun h => q ((isd_kb s t p k hp ht).2 h)), ndf_end t (b + 1) k q]
/-- what a scan answers -/
def ScP (T : TypeId) (w : World) (r : Res) (e : Ending) (w' : World) : Prop := match r with
  | .ok l => ∃ v, e = .returned (.tuple #[v, .int .i64 0, .int .i64 0]) ∧ w'.ownsRow w.heap.size T 4 v l.length (encL l) ∧ Below w.heap.size w w'
  | .bad p er => e = .returned (.tuple #[.slice none 0 0, .int .i64 p, .int .i64 er]) ∧ Below w.heap.size w w'
theorem scp_bad {T : TypeId} {w w' : World} {r : Res} {p : Nat} {er : Int} (h : r = .bad p er) (hb : Below w.heap.size w w') : ScP T w r (.returned (.tuple #[.slice none 0 0, .int .i64 p, .int .i64 er])) w' := by
  subst h; exact ⟨rfl, hb⟩
theorem scp_ok {T : TypeId} {w w' : World} {r : Res} {l : List Tok} {v : Value} (h : r = .ok l) (hr : w'.ownsRow w.heap.size T 4 v l.length (encL l)) (hb : Below w.heap.size w w') : ScP T w r (.returned (.tuple #[v, .int .i64 0, .int .i64 0])) w' := by
  subst h; exact ⟨v, rfl, hr, hb⟩
theorem tok_new (W : World) (T : TypeId) (a b c d : Value) : ∀ j u, [a, b, c, d][j]? = some u → (W.alloc (.cells #[a, b, c, d] T)).cell? ((⟨W.heap.size, 0, none⟩ : Addr).add j) = some u :=
  World.news_of_block (cs := #[a, b, c, d]) (t := T) (fr := (0, 0)) (by show (W.heap.push (Obj.cells #[a, b, c, d] T))[W.heap.size]? = _; simp)
theorem ownsRow_up {B : Nat} {e : TypeId} {k : Nat} {v : Value} {n : Nat} {xs : List Value} {w w' : World} (h : w.ownsRow B e k v n xs) (hb : Below w.heap.size w w') : w'.ownsRow B e k v n xs := by
  refine ⟨h.1, ?_⟩
  rcases h.2 with hn | ⟨g, cap, cur, hv, hg, hh, r⟩
  · exact Or.inl hn
  · have hl : g < w.heap.size := by
      rcases Nat.lt_or_ge g w.heap.size with q | q
      · exact q
      · rw [Array.getElem?_eq_none q] at hh; cases hh
    exact Or.inr ⟨g, cap, cur, hv, hg, (hb.block _ hl).trans hh, r⟩
theorem below_app {w wr w2 : World} {T : TypeId} {k n : Nat} {v : Value} {xs : List Value} {o : Obj} (HB : Below w.heap.size w wr) (HO : wr.ownsRow w.heap.size T k v n xs) (hg : (wr.alloc o).grownBy w2 v.ownBlock) : Below w.heap.size w w2 :=
  ⟨hg.os.trans HB.os, hg.tape.trans HB.tape, hg.output.trans HB.output, Nat.le_trans HB.size (Nat.le_trans (by simp) hg.size), fun k hk => by
    have h1 := HB.size
    exact (hg.block k (by simp; omega) (fun e => by have := HO.lt k e.symm; omega)).trans ((heap_alloc_old wr o (show k < wr.heap.size by omega)).trans (HB.block k hk))⟩
theorem below_tr {w wr w2 : World} (h1 : Below w.heap.size w wr) (h2 : Below wr.heap.size wr w2) : Below w.heap.size w w2 :=
  ⟨h2.os.trans h1.os, h2.tape.trans h1.tape, h2.output.trans h1.output, Nat.le_trans h1.size h2.size, fun k hk => (h2.block k (Nat.lt_of_lt_of_le hk h1.size)).trans (h1.block k hk)⟩
theorem rdv_next (s : ByteArray) (p : Nat) (hp : p ≤ s.size) (h : (rdv (s.extract p s.size) p).2.2 = 0) : (rdv (s.extract p s.size) p).2.1 = (run 2 s p : Int) := by
  have hr := run_ndf s _ p hp rfl (s.extract p s.size).size 0 (by omega)
  unfold rdv at h ⊢
  split
  · rename_i q; rw [if_pos q] at h; simp at h
  · rename_i q; rw [if_neg q] at h
    split
    · rename_i q2; rw [if_pos q2] at h; simp at h
    · show (p : Int) + (nd (s.extract p s.size) : Int) = _
      have : run 2 s p = p + nd (s.extract p s.size) := hr
      omega
theorem own_tok {w : World} {B : Nat} {v : Value} {l : List Tok} {t : Tok} (h : w.ownsRow B 51 4 v (l.length + 1) (encL l ++ encT t)) : w.ownsRow B 51 4 v (l ++ [t]).length (encL (l ++ [t])) := by
  rw [encL_app, List.length_append]; exact h
theorem ScP_end {w w' : World} {s : ByteArray} {l : List Tok} {v : Value} {T : TypeId} (hE : SP s 0 [] = .ok (l ++ [⟨3, noText, 0, s.size⟩])) (hr : w'.ownsRow w.heap.size T 4 v (l.length + 1) (encL l ++ [.int .i64 3, .string ⟨#[]⟩, .int .i64 0, .int .i64 s.size])) (hb : Below w.heap.size w w') : ScP T w (SP s 0 []) (.returned (.tuple #[v, .int .i64 0, .int .i64 0])) w' :=
  scp_ok hE (by rw [encL_app, List.length_append]; exact hr) hb
end Go.Proofs.YtegieoajjfodcaaGreatDoor

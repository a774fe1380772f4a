/-
  ParseTells: Parse and the reference answer the same.
-/
import Derived.Test.YtjojdpohifdghaaRend
namespace Go.Proofs.Ytjojdpohifdghaa
open Go.RowKit
set_option linter.unusedVariables false
set_option maxRecDepth 100000 in
set_option maxHeartbeats 4000000 in
theorem parseTells_walk (s : ByteArray) (w : World) (hs0 : s.size ≤ maxLen) : Calls Try.prog 3 #[.string s] w fun e w' => e = .returned (.bool true) ∧ Below w.heap.size w w' := by
  have HPs := Lib.hid (fun W => parses_any W)
  by_cases hs : 66000 < s.size
  · have d0 : (66000 : Int) < (s.size : Int) := by omega
    clear hs0
    go_enter Try.func3, Try.ntmps3
    go_wp2_with fail
    refine (HPs.out _).mono ?_
    rintro e w1 ⟨rfl, hB⟩
    have BH := Lib.hid hB
    clear HPs hB
    go_wp2
    go_ret
    exact ⟨rfl, BH.out⟩
  · have d0 : ¬ (66000 : Int) < (s.size : Int) := by omega
    have HA := Lib.hid (fun W => parse_any s W)
    have HR := Lib.hid (fun W => refparse_any s W)
    obtain ⟨r, hr⟩ : ∃ r, r = PXX s := ⟨_, rfl⟩
    rw [← hr] at HA HR
    have HL : Hid (∀ K N C wl vl cl, r = .ok K N C wl vl cl → wl.length ≤ 64 ∧ vl.length ≤ 64 ∧ cl.length ≤ 64) := fun K N C wl vl cl h => pxx_len (hr.symm.trans h)
    clear hs hr hs0
    cases r with
    | bad p er =>
      go_enter Try.func3, Try.ntmps3
      go_wp2_with fail
      refine (HA.out _).mono ?_
      rintro e w1 ⟨rfl, hB1⟩
      have B1 := Lib.hid (bl_al hB1 zero6)
      unfold zero6 at B1
      clear HA hB1
      go_wp2_with fail
      refine (HR.out _).mono ?_
      rintro e w2 ⟨rfl, hB2⟩
      have B2 := Lib.hid (bl_al (bl_tr B1.out hB2) zero6)
      obtain ⟨y0, y1, y2, y3, y4, y5⟩ := ip.box6 (heap_alloc_new w2 zero6)
      have q1 : Hid ((w2.alloc zero6).heap[w1.heap.size]? = some zero6 ∧ w1.heap.size < (w2.alloc zero6).heap.size ∧ w2.heap.size < (w2.alloc zero6).heap.size) := by
        have hz := hB2.size
        have e1 : (w1.alloc zero6).heap.size = w1.heap.size + 1 := by simp
        have hz2 : w1.heap.size + 1 ≤ w2.heap.size := by rw [← e1]; exact hz
        refine ⟨(Below.heap_alloc w2 zero6 _ (by omega)).trans ((hB2.block _ (by show w1.heap.size < (w1.alloc zero6).heap.size; omega)).trans (heap_alloc_new w1 zero6)), by simp; omega, by simp⟩
      have S1 : Hid (∀ W, Below (w2.alloc zero6).heap.size (w2.alloc zero6) W → Calls Try.prog 9 #[.agg #[.int .i64 0, .int .i64 0, .int .i64 0, .slice none 0 0, .slice none 0 0, .slice none 0 0], .agg #[.int .i64 0, .int .i64 0, .int .i64 0, .slice none 0 0, .slice none 0 0, .slice none 0 0]] W fun e w' => e = .returned (.bool true) ∧ Below W.heap.size W w') := fun W _ =>
        ip.same_any true 0 0 0 0 0 0 [] [] [] [] [] [] (by simp) none none none none none none 0 0 0 0 0 0 W (fun j hj => by simp at hj) (fun j hj => by simp at hj) (fun j hj => by simp at hj) (fun j hj => by simp at hj) (fun j hj => by simp at hj) (fun j hj => by simp at hj) (by simp) (by simp) (by simp) (by simp) (by simp)
      have X1 : Hid (∀ W, Below (w2.alloc zero6).heap.size (w2.alloc zero6) W → (W.heap[w1.heap.size]? = some zero6 ∧ W.heap[w2.heap.size]? = some zero6)) := fun W hW => ⟨(hW.block _ q1.out.2.1).trans q1.out.1, (hW.block _ q1.out.2.2).trans (heap_alloc_new w2 zero6)⟩
      unfold zero6 at B2 S1 X1 y0 y1 y2 y3 y4 y5
      clear HR hB2 B1 q1 y0 y1 y2 y3 y4 y5
      go_wp2_with fail
      refine (HPs.out _).mono ?_
      rintro e w3 ⟨rfl, hB3⟩
      obtain ⟨x1, x2⟩ := X1.out w3 hB3
      obtain ⟨a0, a1, a2, a3, a4, a5⟩ := ip.box6 x1
      obtain ⟨b0, b1, b2, b3, b4, b5⟩ := ip.box6 x2
      have B3 := Lib.hid (bl_tr B2.out hB3)
      have S3 := Lib.hid (S1.out w3 hB3)
      clear HPs hB3 X1 S1 B2 x1 x2
      go_wp2_with fail
      refine S3.out.mono ?_
      rintro e w4 ⟨rfl, hB4⟩
      have B4 := Lib.hid (bl_tr B3.out hB4)
      clear S3 hB4 B3
      go_wp2
      go_ret
      exact ⟨rfl, B4.out⟩
    | ok K N C wl vl cl =>
      obtain ⟨l1, l2, l3⟩ := HL.out _ _ _ _ _ _ rfl
      have HLN := Lib.hid (And.intro l1 (And.intro l2 l3))
      clear HL l1 l2 l3
      go_enter Try.func3, Try.ntmps3
      go_wp2_with fail
      refine (HA.out _).mono ?_
      rintro e w1 ⟨v, rfl, hV, hB1⟩
      obtain ⟨wa, va, ca, wc, vc, cc, rfl, i1, i2, i3⟩ := hV.lists HLN.out.2.2
      obtain ⟨o1, ho1⟩ : ∃ o, o = (Obj.cells #[.int .i64 K, .int .i64 N, .int .i64 C, .slice wa wl.length wc, .slice va vl.length vc, .slice ca cl.length cc] 26 (0, 0)) := ⟨_, rfl⟩
      have B1 := Lib.hid (bl_al hB1 o1)
      have I1 : Hid (∀ W, Below w1.heap.size w1 W → ip.Ints W wa wl ∧ ip.Ints W va vl ∧ ip.Rws W ca cl) := fun W hW => ⟨i1.keep hW, i2.keep hW, i3.keep hW⟩
      have O1 : Hid ((w1.alloc o1).heap[w1.heap.size]? = some o1 ∧ Below w1.heap.size w1 (w1.alloc o1) ∧ w1.heap.size < (w1.alloc o1).heap.size) := ⟨heap_alloc_new w1 o1, bl_al (Below.refl _ _) o1, by simp⟩
      subst ho1
      clear HA hB1 hV i1 i2 i3
      go_wp2_with fail
      refine (HR.out _).mono ?_
      rintro e w2 ⟨wa', va', ca', wc', vc', cc', rfl, j1, j2, j3, hB2⟩
      obtain ⟨o2, ho2⟩ : ∃ o, o = (Obj.cells #[.int .i64 K, .int .i64 N, .int .i64 C, .slice wa' wl.length wc', .slice va' vl.length vc', .slice ca' cl.length cc'] 26 (0, 0)) := ⟨_, rfl⟩
      have B2 := Lib.hid (bl_al (bl_tr B1.out hB2) o2)
      have X1 : Hid (∀ W, Below (w2.alloc o2).heap.size (w2.alloc o2) W → W.heap[w1.heap.size]? = some (.cells #[.int .i64 K, .int .i64 N, .int .i64 C, .slice wa wl.length wc, .slice va vl.length vc, .slice ca cl.length cc] 26 (0, 0)) ∧ W.heap[w2.heap.size]? = some o2 ∧
          Calls Try.prog 9 #[.agg #[.int .i64 K, .int .i64 N, .int .i64 C, .slice wa wl.length wc, .slice va vl.length vc, .slice ca cl.length cc], .agg #[.int .i64 K, .int .i64 N, .int .i64 C, .slice wa' wl.length wc', .slice va' vl.length vc', .slice ca' cl.length cc']] W fun e w' => e = .returned (.bool true) ∧ Below W.heap.size W w') := fun W hW => by
        have hz := hB2.size
        have hzo := O1.out.2.2
        have k2 : Below w2.heap.size w2 W := (bl_al (Below.refl w2.heap.size w2) o2).trans (hW.mono (by simp))
        have k1 : Below w1.heap.size w1 W := O1.out.2.1.trans ((hB2.mono (Nat.le_of_lt hzo)).trans (k2.mono (by omega)))
        obtain ⟨a1, a2, a3⟩ := I1.out W k1
        obtain ⟨l1, l2, l3⟩ := HLN.out
        refine ⟨(k2.block _ (by omega)).trans ((hB2.block _ hzo).trans O1.out.1), (hW.block _ (by simp)).trans (heap_alloc_new w2 o2), ?_⟩
        exact ip.same_any true K N C K N C wl vl wl vl cl cl (by simp) wa va ca wa' va' ca' wc vc cc wc' vc' cc' W a1 a2 a3 (j1.keep k2) (j2.keep k2) (j3.keep k2) (by omega) (by omega) (by omega) (by omega) (by omega)
      subst ho2
      clear HR hB2 B1 O1 I1 j1 j2 j3
      go_wp2_with fail
      refine (HPs.out _).mono ?_
      rintro e w3 ⟨rfl, hB3⟩
      obtain ⟨x1, x2, x3⟩ := X1.out w3 hB3
      obtain ⟨a0, a1, a2, a3, a4, a5⟩ := ip.box6 x1
      obtain ⟨b0, b1, b2, b3, b4, b5⟩ := ip.box6 x2
      have B3 := Lib.hid (bl_tr B2.out hB3)
      have S3 := Lib.hid x3
      clear HPs hB3 X1 B2 x1 x2 x3
      go_wp2_with fail
      refine S3.out.mono ?_
      rintro e w4 ⟨rfl, hB4⟩
      have B4 := Lib.hid (bl_tr B3.out hB4)
      clear S3 hB4 B3
      go_wp2
      go_ret
      exact ⟨rfl, B4.out⟩
end Go.Proofs.Ytjojdpohifdghaa

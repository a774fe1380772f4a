/-
  What parses answers; a problem told by Parse, to be compared.
-/
import Derived.Test.YtjlaankgfpjeeaaPb
import Derived.Test.YtjlaankgfpjeeaaInSame2
namespace Go.Proofs.Ytjlaankgfpjeeaa
open Go.RowKit
set_option linter.unusedVariables false
theorem ok_n {T : List Tok} (hT : Toks T) (hf : (fin T (PS T)).f = 0) : (tk T 1).num.toNat ≤ 64 := by
  have hp := fin_zero hf
  have key : ∀ most : Nat, most ≤ 64 → (sz T (s1 T) most).f = 0 → (tk T 1).num.toNat ≤ 64 := fun most hm h => by
    obtain ⟨b1, b2, b3⟩ := n_ok hT h
    have c1 := s1_ok b1
    rw [c1] at b2
    have := nOf_le T ⟨1, 0⟩ most
    have e : nOf T ⟨1, 0⟩ most = (tk T 1).num.toNat := b2
    omega
  unfold PS at hp
  split at hp
  · exact key 24 (by omega) (steps_zero eK T _ _ hp).1
  · split at hp
    · unfold tSt at hp
      split at hp
      · exact key 24 (by omega) (s3_ok (steps_zero _ T _ _ hp).1).1
      · exact key 24 (by omega) (s3_ok (steps_zero _ T _ _ hp).1).1
    · exact key 64 (by omega) (steps_zero eK T _ _ hp).1
theorem pr_len {T : List Tok} (hT : Toks T) {K : Int} {N : Nat} {C : Int} {wl vl : List Int} {cl : List (List Int)} (h : PR T = .ok K N C wl vl cl) : wl.length ≤ 64 ∧ vl.length ≤ 64 ∧ cl.length ≤ 64 := by
  have hf : (fin T (PS T)).f = 0 := by
    rcases Decidable.em ((fin T (PS T)).f = 0) with q | q
    · exact q
    · unfold PR at h; rw [if_pos q] at h; cases h
  have hn := ok_n hT hf
  unfold PR at h
  rw [if_neg (by rw [hf]; simp)] at h
  split at h
  · injection h with _ _ _ h1 h2 h3; subst h1 h2 h3; rw [tab_len]; exact ⟨by simp, by simp, hn⟩
  · split at h
    · split at h
      · injection h with _ _ _ h1 h2 h3; subst h1 h2 h3; rw [tab_len]; exact ⟨by simp, by simp, hn⟩
      · injection h with _ _ _ h1 h2 h3; subst h1 h2 h3; rw [tab_len]; exact ⟨by simp, by simp, hn⟩
    · injection h with _ _ _ h1 h2 h3; subst h1 h2 h3; exact ⟨by simp [kWl]; omega, by simp [kVl]; omega, by simp⟩
theorem pxx_len {s : ByteArray} {K : Int} {N : Nat} {C : Int} {wl vl : List Int} {cl : List (List Int)} (h : PXX s = .ok K N C wl vl cl) : wl.length ≤ 64 ∧ vl.length ≤ 64 ∧ cl.length ≤ 64 := by
  unfold PXX at h
  by_cases hs : 65536 < s.size
  · rw [if_pos hs] at h; cases h
  · rw [if_neg hs] at h
    unfold PX at h
    cases hsp : SP s 0 [] with
    | ok T => rw [hsp] at h; exact pr_len (SP_toks (by omega) hsp) h
    | bad p e => rw [hsp] at h; cases h
theorem ints_any {W : World} {B n c : Nat} {a : Option Addr} {l : List Int} (hl : l.length = n) (h : W.ownsRow B 3 1 (.slice a n c) n (enc l)) : ip.Ints W a l := fun j hj => by
  obtain ⟨g, cap, e, h1, h2⟩ := h.form (by omega)
  injection e with e1 e2 e3
  subst e1 e3
  refine ⟨g, 0, rfl, h2, ?_⟩
  rw [Nat.zero_add, h.cellAt j (by omega)]
  unfold enc
  rw [List.getElem?_map, List.getElem?_eq_getElem hj]
  rfl
theorem rws_tbl {W : World} {B g n : Nat} {gs : Nat → Nat} {M : Nat → Nat → Int} (hn : n ≤ 1000) (h : TBL B g n gs M W) : ip.Rws W (some ⟨g, 0, none⟩) (tab n M) := fun j hj => by
  rw [tab_len] at hj
  have e : (tab n M)[j]?.getD [] = (List.range n).map fun b => M j b := by unfold tab; simp [hj]
  rw [e]
  have l : ((List.range n).map fun b => M j b).length = n := by simp
  rw [l]
  refine ⟨g, 0, some ⟨gs j, 0, none⟩, n, rfl, (h.top.lt g rfl).2, ?_, fun b hb => ?_, hn⟩
  · rw [Nat.zero_add]; exact h.rowAt hj
  · rw [l] at hb
    refine ⟨gs j, 0, rfl, ((h.rows j hj).lt (gs j) rfl).2, ?_⟩
    rw [Nat.zero_add, h.cellAt hj hb]
    simp [hb]
theorem IV.lists {v : Value} {K : Int} {N : Nat} {C : Int} {wl vl : List Int} {cl : List (List Int)} {B : Nat} {w : World} (h : IV v K N C wl vl cl B w) (hn : cl.length ≤ 64) :
    ∃ (wa va ca : Option Addr) (wc vc cc : Nat), v = .agg #[.int .i64 K, .int .i64 N, .int .i64 C, .slice wa wl.length wc, .slice va vl.length vc, .slice ca cl.length cc] ∧ ip.Ints w wa wl ∧ ip.Ints w va vl ∧ ip.Rws w ca cl := by
  obtain ⟨wa, va, ca, wc, vc, cc, hv, hW, hV, hC⟩ := h.ex
  refine ⟨wa, va, ca, wc, vc, cc, hv, ints_any rfl hW, ints_any rfl hV, ?_⟩
  rcases hC with ⟨rfl, _⟩ | ⟨gc, gs, M, rfl, _, e3, hT⟩
  · exact fun j hj => absurd hj (by simp)
  · have := rws_tbl (by omega) hT
    rw [← e3] at this
    exact this
def txA : ByteArray := ⟨#[84, 83, 80, 32, 50, 32, 85, 80, 80, 69, 82, 32, 55]⟩
def txB : ByteArray := ⟨#[75, 78, 65, 80, 83, 65, 67, 75, 32, 48]⟩
theorem pxA : PXX txA = .ok 3 2 0 [] [] [[0, 7], [7, 0]] := by kernel_rfl
theorem pxB : PXX txB = .bad 9 1 := by kernel_rfl
set_option maxRecDepth 100000 in
set_option maxHeartbeats 4000000 in
theorem parses_any (w : World) : Calls Try.prog 5 #[] w fun e w' => e = .returned (.bool true) ∧ Below w.heap.size w w' := by
  have HA := Lib.hid (fun W => parse_any txA W)
  have HB := Lib.hid (fun W => parse_any txB W)
  rw [pxA] at HA
  rw [pxB] at HB
  unfold txA at HA
  unfold txB at HB
  go_enter Try.func5, Try.ntmps5
  go_wp2_with fail
  refine (HA.out _).mono ?_
  rintro e w1 ⟨v, rfl, hV, hB1⟩
  obtain ⟨wa, va, ca, wc, vc, cc, rfl, i1, i2, i3⟩ := hV.lists (by decide)
  obtain ⟨b3, o3, aj, cj, h1, h2, h3, h4, _⟩ := i3 1 (by decide)
  obtain ⟨b4, o4, h5, h6, h7⟩ := h4 0 (by decide)
  subst h1 h5
  have B1 := Lib.hid hB1
  have F1 : Hid (∀ W, Below (w1.alloc (.cells #[.int .i64 3, .int .i64 2, .int .i64 0, .slice wa 0 wc, .slice va 0 vc, .slice (some ⟨b3, o3, none⟩) 2 cc] 25)).heap.size (w1.alloc (.cells #[.int .i64 3, .int .i64 2, .int .i64 0, .slice wa 0 wc, .slice va 0 vc, .slice (some ⟨b3, o3, none⟩) 2 cc] 25)) W →
      W.heap[w1.heap.size]? = some (.cells #[.int .i64 3, .int .i64 2, .int .i64 0, .slice wa 0 wc, .slice va 0 vc, .slice (some ⟨b3, o3, none⟩) 2 cc] 25 (0, 0)) ∧ W.cell? ⟨b3, o3 + 1, none⟩ = some (.slice (some ⟨b4, o4, none⟩) 2 cj) ∧ W.cell? ⟨b4, o4, none⟩ = some (.int .i64 7)) := fun W hW => by
    have e1 : (w1.alloc (.cells #[.int .i64 3, .int .i64 2, .int .i64 0, .slice wa 0 wc, .slice va 0 vc, .slice (some ⟨b3, o3, none⟩) 2 cc] 25)).heap.size = w1.heap.size + 1 := by simp
    have hb : Below w1.heap.size w1 W := ⟨hW.os, hW.tape, hW.output, by have := hW.size; omega, fun k hk => (hW.block k (by omega)).trans (Below.heap_alloc w1 _ k hk)⟩
    exact ⟨(hW.block _ (by omega)).trans (heap_alloc_new w1 _), (hb.cell (p := ⟨b3, o3 + 1, none⟩) h2).trans h3, (hb.cell (p := ⟨b4, o4, none⟩) h6).trans (by have := h7; rw [Nat.add_zero] at this; exact this)⟩
  clear HA hV hB1 i1 i2 i3 h2 h3 h4 h6 h7
  go_wp2_with fail
  refine (HB.out _).mono ?_
  rintro e w2 ⟨rfl, hB2⟩
  obtain ⟨k1, k2, k3⟩ := F1.out (w2.alloc zero6) (bl_al hB2 zero6)
  obtain ⟨y0, y1, y2, y3, y4, y5⟩ := ip.box6 k1
  have B2 : Hid (Below w.heap.size w (w2.alloc zero6)) := by
    have a := bl_tr (bl_al B1.out (.cells #[.int .i64 3, .int .i64 2, .int .i64 0, .slice wa 0 wc, .slice va 0 vc, .slice (some ⟨b3, o3, none⟩) 2 cc] 25)) hB2
    exact bl_al a zero6
  unfold zero6 at y0 y1 y2 y3 y4 y5 k2 k3 B2
  clear HB hB2 F1 B1 k1 y2 y3 y4
  go_wp2
  go_ret
  exact ⟨rfl, B2.out⟩
end Go.Proofs.Ytjlaankgfpjeeaa

/-
  kurgantop.KurganRows: words, and the ways out.
-/
import Derived.Test.YtaobaiifbmhegaaRwM
import Derived.Test.YtaobaiifbmhegaaTotal
import Derived.Test.YtaobaiifbmhegaaCr
import Derived.Test.YtaobaiifbmhegaaICopy
import Derived.Test.YtaobaiifbmhegaaSd
import Derived.Test.YtaobaiifbmhegaaNtNth
namespace Go.Proofs.Ytaobaiifbmhegaa
open Go.RowKit
set_option linter.unusedVariables false
/-- a copy's rows in memory -/
def JR (gt n : Nat) (R : Nat → List Int) (W : World) : Prop := ∃ cur : Array Value, W.heap[gt]? = some (.cells cur 22 (0, 0)) ∧ ∀ a, a < n → ∃ g c, cur[a]? = some (.slice (some ⟨g, 0, none⟩) n c) ∧ IntsO W g (R a) ∧ (R a).length = n
theorem JR.keep {gt n : Nat} {R : Nat → List Int} {W W1 : World} (h : JR gt n R W) (hb : Below W.heap.size W W1) : JR gt n R W1 := by
  obtain ⟨cur, h1, h2⟩ := h
  refine ⟨cur, (hb.block _ (lt_hp h1)).trans h1, fun a ha => ?_⟩
  obtain ⟨g, c, e1, e2, e3⟩ := h2 a ha
  exact ⟨g, c, e1, e2.keep hb, e3⟩
theorem set_oth (W : World) (g j : Nat) (v : Value) {b : Nat} (hb : b ≠ g) : (W.setCell ⟨g, j, none⟩ v).heap[b]? = W.heap[b]? := heap_setCell_other W ⟨g, j, none⟩ b v hb
theorem JR.row {gt n : Nat} {R : Nat → List Int} {W : World} (h : JR gt n R W) {k : Nat} (hk : k < n) {g c : Nat} {r : List Int} (hr : IntsO W g r) (hl : r.length = n) : JR gt n (fun a => if a = k then r else R a) (W.setCell ⟨gt, k, none⟩ (.slice (some ⟨g, 0, none⟩) n c)) := by
  obtain ⟨cur, h1, h2⟩ := h
  have hz : k < cur.size := by
    obtain ⟨g0, c0, e, _⟩ := h2 k hk
    exact (Array.getElem?_eq_some_iff.1 e).1
  have oth : ∀ {g' : Nat} {l : List Int}, IntsO W g' l → IntsO (W.setCell ⟨gt, k, none⟩ (.slice (some ⟨g, 0, none⟩) n c)) g' l := fun hi => hi.same (set_oth W gt k _ (hi.ne h1 (by decide)))
  refine ⟨_, heap_setCell_same W gt k _ 22 _ h1, fun a ha => ?_⟩
  by_cases e : a = k
  · subst e
    refine ⟨g, c, by rw [Array.getElem?_setIfInBounds_self_of_lt hz], by dsimp only; rw [if_pos rfl]; exact oth hr, by dsimp only; rw [if_pos rfl]; exact hl⟩
  · obtain ⟨g0, c0, e1, e2, e3⟩ := h2 a ha
    refine ⟨g0, c0, by rw [Array.getElem?_setIfInBounds_ne (fun q => e q.symm)]; exact e1, by dsimp only; rw [if_neg e]; exact oth e2, by dsimp only; rw [if_neg e]; exact e3⟩
theorem JR.cell {gt n : Nat} {R : Nat → List Int} {W : World} (h : JR gt n R W) {k : Nat} (hk : k < n) : (∃ g c, W.cell? ⟨gt, k, none⟩ = some (.slice (some ⟨g, 0, none⟩) n c)) ∧ W.frozen? ⟨gt, k, none⟩ = false ∧ gt < W.heap.size := by
  obtain ⟨cur, h1, h2⟩ := h
  obtain ⟨g, c, e1, _⟩ := h2 k hk
  exact ⟨⟨g, c, by rw [cell_of_row _ _ _ _ _ _ h1]; exact e1⟩, frozen_of_row _ _ _ _ _ h1, lt_hp h1⟩
theorem JR.congr {gt n : Nat} {R R' : Nat → List Int} {W : World} (h : JR gt n R W) (e : ∀ a, a < n → R a = R' a) : JR gt n R' W := by
  obtain ⟨cur, h1, h2⟩ := h
  exact ⟨cur, h1, fun a ha => by rw [← e a ha]; exact h2 a ha⟩
theorem JR.rws {gt n : Nat} {R : Nat → List Int} {W : World} (h : JR gt n R W) (hn : n ≤ 24) {L : List (List Int)} (hl : L.length = n) (hL : ∀ a, a < n → L[a]?.getD [] = R a) : Rws W (some ⟨gt, 0, none⟩) L := fun j hj => by
  obtain ⟨cur, h1, h2⟩ := h
  obtain ⟨g, c, e1, e2, e3⟩ := h2 j (by omega)
  rw [hL j (by omega)]
  refine ⟨gt, 0, some ⟨g, 0, none⟩, c, rfl, lt_hp h1, ?_, e2.ints, by omega⟩
  rw [Nat.zero_add, cell_of_row _ _ _ _ _ _ h1, e3]
  exact e1
theorem cell_oth {W : World} {g k b j : Nat} {v : Value} (hb : b ≠ g) : (W.setCell ⟨g, k, none⟩ v).cell? ⟨b, j, none⟩ = W.cell? ⟨b, j, none⟩ := by
  unfold World.cell?
  simp only [set_oth W g k v hb]
theorem cell_at {W : World} {b : Nat} {cs : Array Value} {t : TypeId} (h : W.heap[b]? = some (.cells cs t (0, 0))) {j : Nat} {v : Value} (hv : cs[j]? = some v) : W.cell? ⟨b, j, none⟩ = some v := by rw [cell_of_row _ _ _ _ _ _ h]; exact hv
/-- a problem in form that came in -/
theorem raw_prob {K N C : Int} {wl vl : List Int} {cl : List (List Int)} {wa va ca : Option Addr} {w : World} (hc : chk K N C wl vl cl = 0) (h1 : Ints w wa wl) (h2 : Ints w va vl) (h3 : RwF w ca cl) : Prob w wl vl cl wa va ca := by
  obtain ⟨z0, z⟩ := chk_zero hc
  obtain ⟨t1, t2, _, _, t5⟩ := chk_tot hc
  exact ⟨h1, h2, h3.rws (fun j hj => by rw [t5 j hj]; omega), by rcases z with z | z <;> omega, by omega, by omega⟩
/-- a copy of a problem -/
def C3 (B : Nat) (W : World) (a1 a2 a3 : Option Addr) (wl vl : List Int) (cl : List (List Int)) : Prop := LO B W a1 wl ∧ LO B W a2 vl ∧ RO B W a3 cl
theorem C3.prob {B : Nat} {W : World} {a1 a2 a3 : Option Addr} {wl vl : List Int} {cl : List (List Int)} (h : C3 B W a1 a2 a3 wl vl cl) (l1 : wl.length ≤ 1000) (l2 : vl.length ≤ 1000) (l3 : cl.length ≤ 1000) : Prob W wl vl cl a1 a2 a3 := ⟨h.1.ints, h.2.1.ints, h.2.2.rws, l1, l2, l3⟩
theorem C3.other {B b : Nat} {W W1 : World} {a1 a2 a3 : Option Addr} {wl vl : List Int} {cl : List (List Int)} {cs : Array Value} (h : C3 B W a1 a2 a3 wl vl cl) (q : W.heap[b]? = some (.cells cs 25 (0, 0))) (he : ∀ k, k ≠ b → W1.heap[k]? = W.heap[k]?) : C3 B W1 a1 a2 a3 wl vl cl :=
  have o : ∀ (g : Nat) (ds : Array Value) (t : TypeId), W.heap[g]? = some (.cells ds t (0, 0)) → t ≠ 25 → W1.heap[g]? = W.heap[g]? := fun g ds t e ht => he g (blk_ne e q ht)
  ⟨h.1.other o, h.2.1.other o, h.2.2.other o⟩
theorem lo_some {B : Nat} {W : World} {a : Option Addr} {l : List Int} (h : LO B W a l) (h1 : 1 ≤ l.length) : ∃ g, a = some ⟨g, 0, none⟩ ∧ IntsO W g l := by
  rcases h with rfl | ⟨g, e, i, _⟩
  · simp at h1
  · exact ⟨g, e, i⟩
theorem jr_start {B n : Nat} {W : World} {a : Option Addr} {cl : List (List Int)} (h : RO B W a cl) (hl : cl.length = n) (hr : ∀ j, j < n → (cl[j]?.getD []).length = n) (h1 : 1 ≤ n) : ∃ gt, a = some ⟨gt, 0, none⟩ ∧ B ≤ gt ∧ JR gt n (fun j => cl[j]?.getD []) W := by
  rcases h with rfl | ⟨g, cur, e, hg, hB, h2⟩
  · simp at hl; omega
  · refine ⟨g, e, hB, cur, hg, fun j hj => ?_⟩
    obtain ⟨aj, cj, k1, k2, _⟩ := h2 j (by omega)
    have hrj := hr j hj
    obtain ⟨gr, rfl, i⟩ := lo_some k2 (by omega)
    rw [hrj] at k1
    exact ⟨gr, cj, k1, i, hrj⟩
/-- an append of a list, wherever it lies -/
theorem wpList_appA {ops : Array Oper} {rest : List Oper} {o : Oper} {A : Act} {X : World} {Q : Exit → Act → World → Prop} (hgd : o.guard = none) (s x : Operand) (ho : o.op = .call { callee := .builtin .append, args := #[s, x], argTypes := #[22, 22] }) (hty : o.type = 22)
    (B g0 : Nat) (l : List Int) (a : Option Addr) (c : Nat) (he : A.eval s = .slice (some ⟨g0, 0, none⟩) 0 0) (hx : A.eval x = .slice a l.length c) (hl : l.length ≤ 1000) (hown : X.ownsRow B 3 1 (.slice (some ⟨g0, 0, none⟩) 0 0) 0 []) (hB : B ≤ X.heap.size) (hs : kn.SrcA X a c l)
    (h : ∀ g cap X', X'.ownsRow B 3 1 (.slice (some ⟨g, 0, none⟩) l.length cap) l.length (l.map (Value.int .i64)) → X.grownBy X' (some g0) → wpList Try.prog ops Q rest (A.put o.dst (.slice (some ⟨g, 0, none⟩) l.length cap)) X') : wpList Try.prog ops Q (o :: rest) A X :=
  wpList_plain hgd fun K hK => by
    have hw : Region.wanted o (yielded ops A.tmps) = true := by simp [Region.wanted, hgd]
    have := kn.step_app (ops := ops) (K := K) (Q := Q) (E := True) hgd s x ho hty B g0 l a c he hx hl hown hB hs (fun g cap X' h1 h2 _ => hK _ _ (h g cap X' h1 h2))
    rw [if_pos hw] at this
    exact this
theorem fN_le : ∀ j, j ≤ 8 → nt.fN j ≤ 40320 := by
  intro j hj
  obtain rfl | rfl | rfl | rfl | rfl | rfl | rfl | rfl | rfl : j = 0 ∨ j = 1 ∨ j = 2 ∨ j = 3 ∨ j = 4 ∨ j = 5 ∨ j = 6 ∨ j = 7 ∨ j = 8 := by omega
  all_goals decide
theorem nt_nth (l : List Int) (j : Nat) : nt.nth l j = nth l j := by rw [nth_def]; unfold nt.nth; rfl
theorem perm_is {x : List Int} {n : Nat} (h : permP x n) : nt.isP x := fun k hk => ((nt.perm_pig n x h.2).2 h.1).1 k (by have := h.1; omega)
theorem is_perm {x : List Int} (h : nt.isP x) : permP x x.length := ⟨rfl, nt.isP_mem h⟩
/-- one order behind the other -/
theorem then_is {x p l : List Int} (hl : l.length = p.length) (h : ∀ j, j < p.length → nt.nth l j = nt.nth x (nt.nth p j).toNat) : l = numsBy x p := by
  refine List.ext_getElem (by unfold numsBy; rw [List.length_map]; exact hl) (fun j h1 h2 => ?_)
  have hj : j < p.length := by omega
  have e := h j hj
  rw [nt_nth, nt_nth, nt_nth] at e
  have e2 := numsBy_get (x := x) hj
  rw [← e2, nth_def, nth_def, List.getElem?_eq_getElem h1, List.getElem?_eq_getElem h2] at e
  exact e
theorem nt_ints {W : World} {a : Option Addr} {l : List Int} (h : Ints W a l) : nt.Ints W a l := fun j hj => by
  obtain ⟨b, o, h1, h2, h3⟩ := h j hj
  refine ⟨b, o, h1, h2, ?_⟩
  rw [h3, nt_nth, nth_def]
theorem nt_own_io {B g n cap : Nat} {l : List Int} {w0 wr : World} (h : nt.Own B g n cap l w0 wr) : IntsO wr g l := ints_own h.1 h.2.2.1
set_option maxRecDepth 100000 in
set_option maxHeartbeats 4000000 in
theorem krows_no (kd N C : Int) (wl vl : List Int) (cl : List (List Int)) (wa va ca : Option Addr) (wc vc cc : Nat) (rank : Int) (xa : Option Addr) (xn xc : Nat) (w : World) (h1 : Ints w wa wl) (h2 : Ints w va vl) (h3 : RwF w ca cl) (h : chk kd N C wl vl cl ≠ 0 ∨ kd ≠ 2 ∨ 8 < N) :
    Calls Try.prog 8 #[.agg #[.int .i64 kd, .int .i64 N, .int .i64 C, .slice wa wl.length wc, .slice va vl.length vc, .slice ca cl.length cc], .int .i64 rank, .slice xa xn xc] w fun e w' => e = .returned (.bool true) ∧ Below w.heap.size w w' := by
  have bA : Below w.heap.size w (w.alloc (.cells #[.int .i64 kd, .int .i64 N, .int .i64 C, .slice wa wl.length wc, .slice va vl.length vc, .slice ca cl.length cc] 25)) := bl_al (Below.refl _ _) _
  have Q0 := Lib.hid (heap_alloc_new w (.cells #[.int .i64 kd, .int .i64 N, .int .i64 C, .slice wa wl.length wc, .slice va vl.length vc, .slice ca cl.length cc] 25))
  have HS := Lib.hid (fun W => sd.stands_any W)
  have HC := Lib.hid (fun (W : World) (hb : Below w.heap.size w W) => check_raw kd N C wl vl cl wa va ca wc vc cc W (h1.keep hb) (h2.keep hb) (h3.keep hb))
  have BA := Lib.hid bA
  clear h1 h2 h3 bA
  by_cases hc : chk kd N C wl vl cl = 0
  · rw [hc] at HC
    by_cases hk : kd = 2
    · have h8 : 8 < N := by rcases h with h | h | h; exact absurd hc h; exact absurd hk h; exact h
      subst hk
      clear hc h
      go_enter Try.func8, Try.ntmps8
      go_wp2_with fail
      refine (HS.out _).mono ?_; rintro e w1 ⟨rfl, hb1⟩
      have B1 := Lib.hid (bl_tr BA.out hb1)
      have Q1 := Lib.hid ((hb1.block _ (lt_hp Q0.out)).trans Q0.out)
      obtain ⟨c0, c1, c2, c3, c4, c5⟩ := box6 Q1.out
      clear hb1
      go_wp2_with fail
      refine (HC.out w1 B1.out).mono ?_; rintro e w2 ⟨rfl, hb2⟩
      have B2 := Lib.hid (bl_tr B1.out hb2)
      have Q2 := Lib.hid ((hb2.block _ (lt_hp Q1.out)).trans Q1.out)
      clear c0 c1 c2 c3 c4 c5
      obtain ⟨c0, c1, c2, c3, c4, c5⟩ := box6 Q2.out
      clear hb2
      go_wp2_with fail
      refine (HS.out _).mono ?_; rintro e w3 ⟨rfl, hb3⟩
      have B3 := Lib.hid (bl_tr B2.out hb3)
      clear hb3
      go_wp2
      first
        | exact ⟨rfl, B3.out⟩
        | (go_ret; exact ⟨rfl, B3.out⟩)
    · have hk' : (kd != 2) = true := by simpa using hk
      clear hc h
      go_enter Try.func8, Try.ntmps8
      go_wp2_with fail
      refine (HS.out _).mono ?_; rintro e w1 ⟨rfl, hb1⟩
      have B1 := Lib.hid (bl_tr BA.out hb1)
      have Q1 := Lib.hid ((hb1.block _ (lt_hp Q0.out)).trans Q0.out)
      obtain ⟨c0, c1, c2, c3, c4, c5⟩ := box6 Q1.out
      clear hb1
      go_wp2_with fail
      refine (HC.out w1 B1.out).mono ?_; rintro e w2 ⟨rfl, hb2⟩
      have B2 := Lib.hid (bl_tr B1.out hb2)
      have Q2 := Lib.hid ((hb2.block _ (lt_hp Q1.out)).trans Q1.out)
      clear c0 c1 c2 c3 c4 c5
      obtain ⟨c0, c1, c2, c3, c4, c5⟩ := box6 Q2.out
      clear hb2
      go_wp2_with fail
      refine (HS.out _).mono ?_; rintro e w3 ⟨rfl, hb3⟩
      have B3 := Lib.hid (bl_tr B2.out hb3)
      clear hb3
      go_wp2
      first
        | exact ⟨rfl, B3.out⟩
        | (go_ret; exact ⟨rfl, B3.out⟩)
  · have hce : (chk kd N C wl vl cl != 0) = true := by simpa using hc
    clear h hc
    generalize chk kd N C wl vl cl = ck at *
    go_enter Try.func8, Try.ntmps8
    go_wp2_with fail
    refine (HS.out _).mono ?_; rintro e w1 ⟨rfl, hb1⟩
    have B1 := Lib.hid (bl_tr BA.out hb1)
    have Q1 := Lib.hid ((hb1.block _ (lt_hp Q0.out)).trans Q0.out)
    obtain ⟨c0, c1, c2, c3, c4, c5⟩ := box6 Q1.out
    clear hb1
    go_wp2_with fail
    refine (HC.out w1 B1.out).mono ?_; rintro e w2 ⟨rfl, hb2⟩
    have B2 := Lib.hid (bl_tr B1.out hb2)
    have Q2 := Lib.hid ((hb2.block _ (lt_hp Q1.out)).trans Q1.out)
    clear c0 c1 c2 c3 c4 c5
    obtain ⟨c0, c1, c2, c3, c4, c5⟩ := box6 Q2.out
    clear hb2
    go_wp2_with fail
    refine (HS.out _).mono ?_; rintro e w3 ⟨rfl, hb3⟩
    have B3 := Lib.hid (bl_tr B2.out hb3)
    clear hb3
    go_wp2
    first
      | exact ⟨rfl, B3.out⟩
      | (go_ret; exact ⟨rfl, B3.out⟩)
end Go.Proofs.Ytaobaiifbmhegaa

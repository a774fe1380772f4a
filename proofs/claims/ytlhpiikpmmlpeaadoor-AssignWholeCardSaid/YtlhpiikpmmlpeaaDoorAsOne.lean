import Derived.Test.YtlhpiikpmmlpeaaDoorSeOne
import Derived.Test.YtlhpiikpmmlpeaaDoorICopy

/-
  Beginnings, and what they leave free: plain mathematics.
-/
namespace Go.Proofs.YtlhpiikpmmlpeaaDoor
set_option linter.unusedVariables false
/-- a beginning: numbers below n, none twice -/
def Pre (n : Nat) (p : List Int) : Prop := p.Nodup ∧ ∀ v ∈ p, 0 ≤ v ∧ v < n
def inP (p : List Int) (i : Nat) : Bool := decide ((i : Int) ∈ p)
/-- is a number left? -/
def fre (n : Nat) (p : List Int) (i : Nat) : Bool := decide (i < n) && !inP p i
theorem mem_s (s j : Nat) (h2 : j < 128) : st.mem (st.lo s) (st.hi s) j = s.testBit j := by
  by_cases h : j < 64
  · rw [st.mem_lo h]
    unfold st.lo
    have := Nat.testBit_mod_two_pow s 64 j
    rw [show (2 : Nat) ^ 64 = 18446744073709551616 from rfl] at this
    rw [this]
    simp [h]
  · rw [st.mem_hi h]
    unfold st.hi
    have := Nat.testBit_div_two_pow (n := 64) s (j - 64)
    rw [show (2 : Nat) ^ 64 = 18446744073709551616 from rfl] at this
    rw [this, show j - 64 + 64 = j by omega]
theorem mem_p (p : List Int) (j : Nat) (h : j < 128) : st.mem (st.lo (st.ofS 0 p)) (st.hi (st.ofS 0 p)) j = inP p j := by
  rw [mem_s _ j h, st.ofS_test p 0 j h, Nat.zero_testBit]
  simp [inP]
theorem lst_add {f g : Nat → Bool} {i0 : Nat} (hf : f i0 = false) (hg : g i0 = true) (ho : ∀ i, i ≠ i0 → g i = f i) : ∀ (n k : Nat), (st.lst g k n).length = (st.lst f k n).length + if k ≤ i0 ∧ i0 < k + n then 1 else 0
  | 0, k => by rw [if_neg (by omega)]; simp only [st.lst]; rfl
  | n + 1, k => by
    have ih := lst_add hf hg ho n (k + 1)
    by_cases e : k = i0
    · subst e
      rw [st.lst_yes hg, st.lst_no (by rw [hf]; simp), List.length_cons, ih, if_neg (by omega), if_pos (by omega)]
    · have hk := ho k e
      have hi : (if k + 1 ≤ i0 ∧ i0 < k + 1 + n then 1 else 0) = (if k ≤ i0 ∧ i0 < k + (n + 1) then 1 else 0 : Nat) := by
        by_cases c : k + 1 ≤ i0 ∧ i0 < k + 1 + n
        · rw [if_pos c, if_pos (by omega)]
        · rw [if_neg c, if_neg (by omega)]
      by_cases q : f k = true
      · rw [st.lst_yes (by rw [hk]; exact q), st.lst_yes q, List.length_cons, List.length_cons, ih, hi]; omega
      · rw [st.lst_no (by rw [hk]; exact q), st.lst_no q, ih, hi]
theorem cnt_p : ∀ p : List Int, (st.nums (inP p)).length ≤ p.length ∧ ((st.nums (inP p)).length = p.length ↔ p.Nodup ∧ ∀ v ∈ p, 0 ≤ v ∧ v < 128)
  | [] => by
    have : st.nums (inP []) = [] := by unfold st.nums; exact st.lst_none 128 0 (fun i _ _ => by simp [inP])
    rw [this]; simp
  | v :: t => by
    obtain ⟨h1, h2⟩ := cnt_p t
    by_cases hv : (0 ≤ v ∧ v < 128) ∧ ¬ v ∈ t
    · obtain ⟨i0, hi⟩ : ∃ i0 : Nat, v = i0 := ⟨v.toNat, by omega⟩
      have := lst_add (f := inP t) (g := inP (v :: t)) (i0 := i0) (by rw [hi] at hv; simpa [inP] using hv.2) (by simp [inP, hi]) (fun i hne => by
        have : ¬ (i : Int) = v := by omega
        simp [inP, this]) 128 0
      rw [if_pos (by omega)] at this
      have e : (st.nums (inP (v :: t))).length = (st.nums (inP t)).length + 1 := by unfold st.nums; exact this
      rw [e, List.length_cons]
      refine ⟨by omega, ?_⟩
      rw [List.nodup_cons]
      constructor
      · intro h
        have := h2.1 (by omega)
        refine ⟨⟨hv.2, this.1⟩, fun w hw => ?_⟩
        rcases List.mem_cons.1 hw with q | q
        · subst q; exact hv.1
        · exact this.2 w q
      · rintro ⟨⟨_, a⟩, b⟩
        have := h2.2 ⟨a, fun w hw => b w (List.mem_cons_of_mem _ hw)⟩
        omega
    · have e : st.nums (inP (v :: t)) = st.nums (inP t) := by unfold st.nums; exact st.lst_congr 128 0 (fun i _ hi => by
        by_cases c : (i : Int) = v
        · have : v ∈ t := by
            by_cases q : v ∈ t
            · exact q
            · exact absurd ⟨by omega, q⟩ hv
          simp [inP, c, this]
        · simp [inP, c])
      rw [e, List.length_cons]
      refine ⟨by omega, fun h => by omega, ?_⟩
      rintro ⟨a, b⟩
      rw [List.nodup_cons] at a
      exact absurd ⟨b v (List.mem_cons_self ..), a.1⟩ hv
theorem nums_p (p : List Int) : st.nums (st.mem (st.lo (st.ofS 0 p)) (st.hi (st.ofS 0 p))) = st.nums (inP p) := by
  unfold st.nums
  exact st.lst_congr 128 0 (fun i _ hi => mem_p p i (by omega))
/-- the set of all below n -/
theorem mem_n (n j : Nat) (hj : j < 128) : st.mem (st.lowv (st.clamp n)) (st.lowv (st.clamp n - 64)) j = decide (j < n) := by
  rw [st.full_bit n j hj]
  simp
/-- In, told by the numbers -/
theorem in_iff {a b c d : Nat} : (st.anot a c = 0 ∧ st.anot b d = 0) ↔ ∀ j, j < 128 → ¬ (st.mem a b j = true ∧ st.mem c d j = false) := by
  constructor
  · rintro ⟨h1, h2⟩ j hj ⟨m1, m2⟩
    have := st.mem_anot a b c d j hj
    rw [h1, h2, m1, m2] at this
    have z : st.mem 0 0 j = false := by unfold st.mem; split <;> simp
    rw [z] at this
    simp at this
  · intro h
    refine st.none_zero (st.anot_lt _ _) (st.anot_lt _ _) (fun j hj => ?_)
    rw [st.mem_anot a b c d j hj]
    have := h j hj
    cases q : st.mem a b j
    · simp
    · cases q2 : st.mem c d j
      · exact absurd ⟨q, q2⟩ this
      · simp
theorem pre_iff {n : Nat} (hn : n ≤ 128) (p : List Int) : (¬ (st.nums (inP p)).length < p.length ∧ ∀ j, j < 128 → ¬ (inP p j = true ∧ decide (j < n) = false)) ↔ Pre n p := by
  obtain ⟨h1, h2⟩ := cnt_p p
  constructor
  · rintro ⟨a, b⟩
    obtain ⟨c, d⟩ := h2.1 (by omega)
    refine ⟨c, fun v hv => ?_⟩
    have r := d v hv
    obtain ⟨i, hi⟩ : ∃ i : Nat, v = i := ⟨v.toNat, by omega⟩
    subst hi
    refine ⟨r.1, ?_⟩
    by_cases q : i < n
    · omega
    · exact absurd ⟨by simpa [inP] using hv, by simpa using q⟩ (b i (by omega))
  · rintro ⟨a, b⟩
    have := h2.2 ⟨a, fun v hv => by have := b v hv; omega⟩
    refine ⟨by omega, fun j hj => ?_⟩
    rintro ⟨q1, q2⟩
    have hv : (j : Int) ∈ p := by simpa [inP] using q1
    have := b _ hv
    simp at q2
    omega
theorem mem_fre {n : Nat} (hn : n ≤ 128) (p : List Int) (j : Nat) (hj : j < 128) : st.mem (st.anot (st.lowv (st.clamp n)) (st.lo (st.ofS 0 p))) (st.anot (st.lowv (st.clamp n - 64)) (st.hi (st.ofS 0 p))) j = fre n p j := by
  rw [st.mem_anot _ _ _ _ j hj, mem_n n j hj, mem_p p j hj]
  rfl
end Go.Proofs.YtlhpiikpmmlpeaaDoor

/-
  assign: the kernel in memory; New, Depth, free.
-/
namespace Go.Proofs.YtlhpiikpmmlpeaaDoor
open Go.RowKit
set_option linter.unusedVariables false
/-- problems in memory -/
def Prob (W : World) (wl vl : List Int) (cl : List (List Int)) (wa va ca : Option Addr) : Prop := Ints W wa wl ∧ Ints W va vl ∧ Rws W ca cl ∧ wl.length ≤ 1000 ∧ vl.length ≤ 1000 ∧ cl.length ≤ 1000
theorem Prob.keep {W W1 : World} {wl vl : List Int} {cl : List (List Int)} {wa va ca : Option Addr} (h : Prob W wl vl cl wa va ca) (hb : Below W.heap.size W W1) : Prob W1 wl vl cl wa va ca :=
  ⟨h.1.keep hb, h.2.1.keep hb, h.2.2.1.keep hb, h.2.2.2⟩
theorem check_prob (K N C : Int) {wl vl : List Int} {cl : List (List Int)} {wa va ca : Option Addr} {wc vc cc : Nat} {w : World} (h : Prob w wl vl cl wa va ca) :
    Calls Tryd.prog 47 #[.agg #[.int .i64 K, .int .i64 N, .int .i64 C, .slice wa wl.length wc, .slice va vl.length vc, .slice ca cl.length cc]] w
      fun e w' => e = .returned (.int .i64 (chk K N C wl vl cl)) ∧ Below w.heap.size w w' := check_any K N C wl vl cl wa va ca wc vc cc w h.1 h.2.1 h.2.2.1 h.2.2.2.1 h.2.2.2.2.1 h.2.2.2.2.2
/-- an assignment in form -/
theorem chk_rw {K N C : Int} {wl vl : List Int} {cl : List (List Int)} (h : chk K N C wl vl cl = 0) : 1 ≤ N ∧ (K ≠ 1 → N ≤ 24 ∧ (cl.length : Int) = N ∧ ∀ j, j < cl.length → (cl[j]?.getD []).length = cl.length) := by
  by_cases hK : K < 1 ∨ 3 < K
  · rw [chk_kind hK] at h; cases h
  · by_cases h1 : N < 1
    · rw [chk_arg hK h1] at h; cases h
    · by_cases h2 : (K = 1 ∧ 64 < N) ∨ (K ≠ 1 ∧ 24 < N)
      · rw [chk_big hK h1 h2] at h; cases h
      · by_cases h3 : formP K N C wl.length vl.length cl
        · refine ⟨by omega, fun h4 => ?_⟩
          obtain ⟨f1, f2, f3, f4, f5⟩ := form_costs h3 h4
          exact ⟨by omega, f1, f5⟩
        · rw [chk_form hK h1 h2 h3] at h; cases h
/-- a copy's rows in memory -/
def JR (B gt n : Nat) (R : Nat → List Int) (W : World) : Prop := ∃ cur : Array Value, W.heap[gt]? = some (.cells cur 22 (0, 0)) ∧ ∀ a, a < n → ∃ g c, cur[a]? = some (.slice (some ⟨g, 0, none⟩) n c) ∧ IntsO W g (R a) ∧ (R a).length = n ∧ B ≤ g
theorem JR.keep {B gt n : Nat} {R : Nat → List Int} {W W1 : World} (h : JR B gt n R W) (hb : Below W.heap.size W W1) : JR B gt n R W1 := by
  obtain ⟨cur, h1, h2⟩ := h
  refine ⟨cur, (hb.block _ (lt_hp h1)).trans h1, fun a ha => ?_⟩
  obtain ⟨g, c, e1, e2, e3⟩ := h2 a ha
  exact ⟨g, c, e1, e2.keep hb, e3⟩
theorem lo_some {B : Nat} {W : World} {a : Option Addr} {l : List Int} (h : LO B W a l) (h1 : 1 ≤ l.length) : ∃ g, a = some ⟨g, 0, none⟩ ∧ IntsO W g l ∧ B ≤ g := by
  rcases h with rfl | ⟨g, e, i, b⟩
  · simp at h1
  · exact ⟨g, e, i, b⟩
theorem jr_start {B n : Nat} {W : World} {a : Option Addr} {cl : List (List Int)} (h : RO B W a cl) (hl : cl.length = n) (hr : ∀ j, j < n → (cl[j]?.getD []).length = n) (h1 : 1 ≤ n) : ∃ gt, a = some ⟨gt, 0, none⟩ ∧ B ≤ gt ∧ JR B gt n (fun j => cl[j]?.getD []) W := by
  rcases h with rfl | ⟨g, cur, e, hg, hB, h2⟩
  · simp at hl; omega
  · refine ⟨g, e, hB, cur, hg, fun j hj => ?_⟩
    obtain ⟨aj, cj, k1, k2, _⟩ := h2 j (by omega)
    have hrj := hr j hj
    obtain ⟨gr, rfl, i, b⟩ := lo_some k2 (by omega)
    rw [hrj] at k1
    exact ⟨gr, cj, k1, i, hrj, b⟩
/-- a kernel in memory: its box, its rows; all of it from block B on -/
def AK (B b n : Nat) (cl : List (List Int)) (W : World) : Prop := B ≤ b ∧ 1 ≤ n ∧ n ≤ 24 ∧ ∃ gt c, W.heap[b]? = some (.cells #[.slice (some ⟨gt, 0, none⟩) n c] 52 (0, 0)) ∧ B ≤ gt ∧ JR B gt n (fun j => cl[j]?.getD []) W
theorem AK.keep {B b n : Nat} {cl : List (List Int)} {W W1 : World} (h : AK B b n cl W) (hb : Below W.heap.size W W1) : AK B b n cl W1 := by
  obtain ⟨h1, h2, h3, gt, c, h4, h5, h6⟩ := h
  exact ⟨h1, h2, h3, gt, c, (hb.block _ (lt_hp h4)).trans h4, h5, h6.keep hb⟩
theorem fld5 (v0 v1 v2 v3 v4 v5 : Value) (w : World) : (Instr.field 25 (.agg #[v0, v1, v2, v3, v4, v5]) 5).run Tryd.prog w = .ok v5 w := by kernel_rfl
/-- what New leaves -/
def NaP (K N C : Int) (wl vl : List Int) (cl : List (List Int)) (w : World) (e : Ending) (w' : World) : Prop :=
  (chk K N C wl vl cl ≠ 0 ∧ e = .returned (.tuple #[.pointer none, .int .i64 (chk K N C wl vl cl)]) ∧ Below w.heap.size w w') ∨
  (chk K N C wl vl cl = 0 ∧ K ≠ 2 ∧ e = .returned (.tuple #[.pointer none, .int .i64 14]) ∧ Below w.heap.size w w') ∨
  (chk K N C wl vl cl = 0 ∧ K = 2 ∧ ∃ b n : Nat, N = n ∧ cl.length = n ∧ e = .returned (.tuple #[.pointer (some ⟨b, 0, none⟩), .int .i64 0]) ∧ Below w.heap.size w w' ∧ AK w.heap.size b n cl w')
set_option maxRecDepth 100000 in
set_option maxHeartbeats 4000000 in
theorem new_any (K N C : Int) (wl vl : List Int) (cl : List (List Int)) (wa va ca : Option Addr) (wc vc cc : Nat) (w : World) (h : Prob w wl vl cl wa va ca) :
    Calls Tryd.prog 14 #[.agg #[.int .i64 K, .int .i64 N, .int .i64 C, .slice wa wl.length wc, .slice va vl.length vc, .slice ca cl.length cc]] w (NaP K N C wl vl cl w) := by
  have bA : Below w.heap.size w (w.alloc (.cells #[.int .i64 K, .int .i64 N, .int .i64 C, .slice wa wl.length wc, .slice va vl.length vc, .slice ca cl.length cc] 25)) := bl_al (Below.refl _ _) _
  have Q0 := Lib.hid (heap_alloc_new w (.cells #[.int .i64 K, .int .i64 N, .int .i64 C, .slice wa wl.length wc, .slice va vl.length vc, .slice ca cl.length cc] 25))
  have HK := Lib.hid (check_prob K N C (wc := wc) (vc := vc) (cc := cc) (h.keep bA))
  have HP := Lib.hid h
  have BA := Lib.hid bA
  clear h bA
  by_cases hc : chk K N C wl vl cl = 0
  rotate_left
  · have HG : Hid (∀ w', Below w.heap.size w w' → NaP K N C wl vl cl w (.returned (.tuple #[.pointer none, .int .i64 (chk K N C wl vl cl)])) w') := fun w' hb => .inl ⟨hc, rfl, hb⟩
    have hce : (chk K N C wl vl cl != 0) = true := by simpa using hc
    clear hc
    generalize NaP K N C wl vl cl w = G at *
    generalize chk K N C wl vl cl = ck at *
    go_enter Tryd.func14, Tryd.ntmps14
    go_wp2_with fail
    refine HK.out.mono ?_; rintro e w1 ⟨rfl, hb1⟩
    have B1 := Lib.hid (bl_tr BA.out hb1)
    clear hb1
    go_wp2
    first
      | exact HG.out _ B1.out
      | (go_ret; exact HG.out _ B1.out)
  · rw [hc] at HK
    by_cases hk : K = 2
    rotate_left
    · have HG : Hid (∀ w', Below w.heap.size w w' → NaP K N C wl vl cl w (.returned (.tuple #[.pointer none, .int .i64 14])) w') := fun w' hb => .inr (.inl ⟨hc, hk, rfl, hb⟩)
      have hke : (K != 2) = true := by simpa using hk
      clear hc
      generalize NaP K N C wl vl cl w = G at *
      go_enter Tryd.func14, Tryd.ntmps14
      go_wp2_with fail
      refine HK.out.mono ?_; rintro e w1 ⟨rfl, hb1⟩
      have B1 := Lib.hid (bl_tr BA.out hb1)
      obtain ⟨c0, c1, c2, c3, c4, c5⟩ := box6 ((hb1.block _ (lt_hp Q0.out)).trans Q0.out)
      clear hb1
      go_wp2
      first
        | exact HG.out _ B1.out
        | (go_ret; exact HG.out _ B1.out)
    · subst hk
      obtain ⟨z0, z1⟩ := chk_rw hc
      obtain ⟨z2, z3, z4⟩ := z1 (by decide)
      have HG : Hid (∀ (b n : Nat) (w' : World), N = n → cl.length = n → Below w.heap.size w w' → AK w.heap.size b n cl w' → NaP 2 N C wl vl cl w (.returned (.tuple #[.pointer (some ⟨b, 0, none⟩), .int .i64 0])) w') := fun b n w' h1 h2 h3 h4 => .inr (.inr ⟨hc, rfl, b, n, h1, h2, rfl, h3, h4⟩)
      have Z := Lib.hid z4
      clear hc z4 z1
      generalize NaP 2 N C wl vl cl w = G at *
      obtain ⟨n, hn⟩ : ∃ n, cl.length = n := ⟨_, rfl⟩
      have HN := Lib.hid hn
      have CP := Lib.hid (fun (W : World) (hb : Below w.heap.size w W) => icopy_any 2 N C wl vl cl wa va ca wc vc cc HP.out.2.2.2.1 HP.out.2.2.2.2.1 HP.out.2.2.2.2.2 W (HP.out.keep hb).1 (HP.out.keep hb).2.1 (HP.out.keep hb).2.2.1)
      go_enter Tryd.func14, Tryd.ntmps14
      clear hn
      go_wp2_with fail
      refine HK.out.mono ?_; rintro e w1 ⟨rfl, hb1⟩
      have B1 := Lib.hid (bl_tr BA.out hb1)
      obtain ⟨c0, c1, c2, c3, c4, c5⟩ := box6 ((hb1.block _ (lt_hp Q0.out)).trans Q0.out)
      clear hb1 HK
      go_wp2_with fail
      refine (CP.out w1 B1.out).mono ?_; rintro e w2 ⟨a1, a2, a3, k1, k2, k3, rfl, hb2, l1, l2, l3⟩
      obtain ⟨gt, rfl, hgt, J⟩ := jr_start l3 HN.out (fun j hj => by have := Z.out j (by have := HN.out; omega); rw [this, HN.out]) (by have := HN.out; omega)
      have B2 := bl_tr B1.out hb2
      have bY : Below w2.heap.size w2 (w2.alloc (.cells #[.slice (some ⟨gt, 0, none⟩) n k3] 52)) := bl_al (Below.refl _ _) _
      have HB := Lib.hid (bl_tr B2 bY)
      have HA : Hid (AK w.heap.size w2.heap.size n cl (w2.alloc (.cells #[.slice (some ⟨gt, 0, none⟩) n k3] 52))) := Lib.hid ⟨B2.size, by have := HN.out; omega, by have := HN.out; omega, gt, k3, heap_alloc_new w2 _, by have := B1.out.size; omega, by
        have q := J.keep bY
        obtain ⟨cur, q1, q2⟩ := q
        refine ⟨cur, q1, fun a ha => ?_⟩
        obtain ⟨g, c, e1, e2, e3, e4⟩ := q2 a ha
        exact ⟨g, c, e1, e2, e3, by have := B1.out.size; omega⟩⟩
      have hN2 : N = (n : Int) := by have := HN.out; omega
      rw [HN.out]
      have hfd := fun W v5 => fld5 (.int .i64 2) (.int .i64 (n : Int)) (.int .i64 C) (.slice a1 wl.length k1) (.slice a2 vl.length k2) v5 W
      clear c0 c1 c2 c3 c4 c5 hb2 l1 l2 l3 J bY B2 hgt CP
      go_wp2
      first
        | exact HG.out _ n _ hN2 HN.out HB.out HA.out
        | (go_ret; exact HG.out _ n _ hN2 HN.out HB.out HA.out)
theorem depth_any {B b n : Nat} {cl : List (List Int)} {w : World} (h : AK B b n cl w) :
    Calls Tryd.prog 21 #[.pointer (some ⟨b, 0, none⟩)] w fun e w' => e = .returned (.int .i64 n) ∧ w = w' := by
  obtain ⟨h1, h2, h3, gt, c, h4, h5, h6⟩ := h
  have c0 : w.cell? ⟨b, 0, none⟩ = some (.slice (some ⟨gt, 0, none⟩) n c) := by rw [cell_of_row _ _ _ _ _ _ h4]; rfl
  clear h4 h6
  go_enter Tryd.func21, Tryd.ntmps21
  go_wp2
  first
    | exact ⟨rfl, rfl⟩
    | (go_ret; exact ⟨rfl, rfl⟩)
theorem depth_nil (w : World) : Calls Tryd.prog 21 #[.pointer none] w fun e w' => e = .returned (.int .i64 0) ∧ w = w' := by
  go_enter Tryd.func21, Tryd.ntmps21
  go_wp2
  first
    | exact ⟨rfl, rfl⟩
    | (go_ret; exact ⟨rfl, rfl⟩)
end Go.Proofs.YtlhpiikpmmlpeaaDoor

/-
  assign: free.
-/
namespace Go.Proofs.YtlhpiikpmmlpeaaDoor
open Go.RowKit
set_option linter.unusedVariables false
theorem st_ints {W : World} {a : Option Addr} {l : List Int} (h : Ints W a l) : st.Ints W a l := fun j hj => by
  obtain ⟨b, o, h1, h2, h3⟩ := h j hj
  exact ⟨b, o, h1, h2, by rw [h3]⟩
theorem eq0 (a b : Int) (w : World) : (Op.equalIn 10000 55 (.agg #[.int .u64 a, .int .u64 b]) (.agg #[.int .u64 0, .int .u64 0])).run Tryd.prog w = .ok (a == 0 && b == 0) w := st.eq_two a b 0 0 w
set_option maxHeartbeats 2000000 in
theorem in_any (a b c d : Nat) (w : World) :
    Calls Tryd.prog 79 #[.agg #[.int .u64 a, .int .u64 b], .agg #[.int .u64 c, .int .u64 d]] w fun e w' => e = .returned (.bool (decide (st.anot a c = 0 ∧ st.anot b d = 0))) ∧ Below w.heap.size w w' := by
  have HM := Lib.hid (fun W => st.minus_any a b c d W)
  have HE : Hid ((((st.anot a c : Nat) : Int) == 0 && ((st.anot b d : Nat) : Int) == 0) = decide (st.anot a c = 0 ∧ st.anot b d = 0)) := Lib.hid (by
    by_cases h1 : st.anot a c = 0
    · by_cases h2 : st.anot b d = 0
      · rw [h1, h2]; decide
      · simp [h1, h2]
    · simp [h1])
  generalize decide (st.anot a c = 0 ∧ st.anot b d = 0) = r at *
  generalize st.anot a c = x at *
  generalize st.anot b d = y at *
  have heq := fun W => eq0 (x : Int) (y : Int) W
  have bA : Below w.heap.size w ((w.alloc (.cells #[.int .u64 a, .int .u64 b] 55)).alloc (.cells #[.int .u64 c, .int .u64 d] 55)) := bl_al (bl_al (Below.refl _ _) _) _
  have BA := Lib.hid bA
  clear bA
  go_enter Tryd.func79, Tryd.ntmps79
  go_wp2_with fail
  refine (HM.out _).mono ?_; rintro e w1 ⟨rfl, hb⟩
  have B1 := Lib.hid (bl_tr BA.out hb)
  clear hb
  have he := HE.out
  clear HE
  go_wp2
  first
    | exact ⟨rfl, B1.out⟩
    | (go_ret; exact ⟨rfl, B1.out⟩)
    | (go_ret; exact ⟨by rw [he], B1.out⟩)
/-- what free leaves -/
def FrP (n : Nat) (p : List Int) (w : World) (e : Ending) (w' : World) : Prop :=
  (Pre n p ∧ (∃ a b : Nat, e = .returned (.tuple #[.agg #[.int .u64 a, .int .u64 b], .int .i64 0]) ∧ a < 18446744073709551616 ∧ b < 18446744073709551616 ∧ ∀ j, j < 128 → st.mem a b j = fre n p j) ∧ Below w.heap.size w w') ∨
  (¬ Pre n p ∧ e = .returned (.tuple #[.agg #[.int .u64 0, .int .u64 0], .int .i64 1]) ∧ Below w.heap.size w w')
theorem two_row {W : World} {b : Nat} {v0 v1 : Value} (q : W.heap[b]? = some (.cells #[v0, v1] 55 (0, 0))) : W.cell? ⟨b, 0, none⟩ = some v0 ∧ W.cell? ⟨b, 1, none⟩ = some v1 ∧ (∀ j, W.frozen? ⟨b, j, none⟩ = false) ∧ b < W.heap.size :=
  ⟨by rw [cell_of_row _ _ _ _ _ _ q]; rfl, by rw [cell_of_row _ _ _ _ _ _ q]; rfl, fun j => frozen_of_row _ _ _ _ _ q, lt_hp q⟩
theorem two_set {W : World} {b : Nat} {u0 u1 : Value} (q : W.heap[b]? = some (.cells #[u0, u1] 55 (0, 0))) (v0 v1 : Value) : ((W.setCell ⟨b, 0, none⟩ v0).setCell ⟨b, 1, none⟩ v1).heap[b]? = some (.cells #[v0, v1] 55 (0, 0)) :=
  st.two_set q
set_option maxRecDepth 100000 in
set_option maxHeartbeats 8000000 in
theorem free_any {B b n : Nat} {cl : List (List Int)} (p : List Int) (hp : p.length ≤ 1000) (pa : Option Addr) (pc : Nat) (w : World) (h : AK B b n cl w) (hI : Ints w pa p) :
    Calls Tryd.prog 49 #[.pointer (some ⟨b, 0, none⟩), .slice pa p.length pc] w (FrP n p w) := by
  have HD := Lib.hid (fun (W : World) (hb : Below w.heap.size w W) => depth_any (h.keep hb))
  have HF := Lib.hid (fun W => st.full_all (n : Int) W)
  have HO := Lib.hid (fun (W : World) (hb : Below w.heap.size w W) => st.of_any p pa pc W (st_ints (hI.keep hb)) hp)
  have hs := st.ofS_lt p 0 (by decide)
  have HCn := Lib.hid (fun W => st.count_any (st.lo (st.ofS 0 p)) (st.hi (st.ofS 0 p)) (st.lo_lt _) (st.hi_lt _ hs) W)
  rw [nums_p] at HCn
  have HIn := Lib.hid (fun W => in_any (st.lo (st.ofS 0 p)) (st.hi (st.ofS 0 p)) (st.lowv (st.clamp n)) (st.lowv (st.clamp n - 64)) W)
  have HMi := Lib.hid (fun W => st.minus_any (st.lowv (st.clamp n)) (st.lowv (st.clamp n - 64)) (st.lo (st.ofS 0 p)) (st.hi (st.ofS 0 p)) W)
  have n1 := h.2.1
  have n24 := h.2.2.1
  have PI : (¬ (st.nums (inP p)).length < p.length ∧ (st.anot (st.lo (st.ofS 0 p)) (st.lowv (st.clamp n)) = 0 ∧ st.anot (st.hi (st.ofS 0 p)) (st.lowv (st.clamp n - 64)) = 0)) ↔ Pre n p := by
    rw [← pre_iff (by omega) p, in_iff]
    constructor
    · rintro ⟨a, c⟩
      exact ⟨a, fun j hj => by have := c j hj; rw [mem_p p j hj, mem_n n j hj] at this; exact this⟩
    · rintro ⟨a, c⟩
      exact ⟨a, fun j hj => by have := c j hj; rw [mem_p p j hj, mem_n n j hj]; exact this⟩
  have HY : Hid (∀ w', (¬ (st.nums (inP p)).length < p.length ∧ (st.anot (st.lo (st.ofS 0 p)) (st.lowv (st.clamp n)) = 0 ∧ st.anot (st.hi (st.ofS 0 p)) (st.lowv (st.clamp n - 64)) = 0)) → Below w.heap.size w w' → FrP n p w (.returned (.tuple #[.agg #[.int .u64 (st.anot (st.lowv (st.clamp n)) (st.lo (st.ofS 0 p)) : Nat), .int .u64 (st.anot (st.lowv (st.clamp n - 64)) (st.hi (st.ofS 0 p)) : Nat)], .int .i64 0])) w') := fun w' c hb => .inl ⟨PI.1 c, ⟨_, _, rfl, st.anot_lt _ _, st.anot_lt _ _, fun j hj => mem_fre (by omega) p j hj⟩, hb⟩
  have HNo : Hid (∀ w', ¬ (¬ (st.nums (inP p)).length < p.length ∧ (st.anot (st.lo (st.ofS 0 p)) (st.lowv (st.clamp n)) = 0 ∧ st.anot (st.hi (st.ofS 0 p)) (st.lowv (st.clamp n - 64)) = 0)) → Below w.heap.size w w' → FrP n p w (.returned (.tuple #[.agg #[.int .u64 0, .int .u64 0], .int .i64 1])) w') := fun w' c hb => .inr ⟨fun q => c (PI.2 q), rfl, hb⟩
  have bZ : Below w.heap.size w (w.alloc (.cells #[.int .u64 0, .int .u64 0] 55)) := bl_al (Below.refl _ _) _
  have QZ := Lib.hid (heap_alloc_new w (.cells #[.int .u64 0, .int .u64 0] 55))
  have BZ := Lib.hid bZ
  clear h hI hs PI bZ
  generalize st.anot (st.lo (st.ofS 0 p)) (st.lowv (st.clamp n)) = t1 at *
  generalize st.anot (st.hi (st.ofS 0 p)) (st.lowv (st.clamp n - 64)) = t2 at *
  generalize st.anot (st.lowv (st.clamp n)) (st.lo (st.ofS 0 p)) = r1' at *
  generalize st.anot (st.lowv (st.clamp n - 64)) (st.hi (st.ofS 0 p)) = r2' at *
  generalize st.lowv (st.clamp n) = a0 at *
  generalize st.lowv (st.clamp n - 64) = b0 at *
  generalize st.lo (st.ofS 0 p) = u at *
  generalize st.hi (st.ofS 0 p) = v at *
  generalize (st.nums (inP p)).length = m at *
  generalize FrP n p w = G at *
  generalize p.length = l at *
  have hn0 : ((n : Int) == 0) = false := by simp; omega
  go_enter Tryd.func49, Tryd.ntmps49
  go_wp2_with fail
  refine (HD.out _ BZ.out).mono ?_; rintro e w1 ⟨rfl, rfl⟩
  go_wp2_with fail
  refine (HD.out _ BZ.out).mono ?_; rintro e w1 ⟨rfl, rfl⟩
  go_wp2_with fail
  refine (HF.out _).mono ?_; rintro e w1 ⟨rfl, hb1⟩
  have B1 := Lib.hid (bl_tr BZ.out hb1)
  have Q1 := Lib.hid ((hb1.block _ (lt_hp QZ.out)).trans QZ.out)
  clear hb1 HF HD
  go_wp2_with fail
  refine (HO.out _ B1.out).mono ?_; rintro e w2 ⟨rfl, hb2⟩
  have B2 := Lib.hid (bl_tr B1.out hb2)
  have Q2 := Lib.hid ((hb2.block _ (lt_hp Q1.out)).trans Q1.out)
  clear hb2 HO
  go_upto_region 4 with fail
  have bY : Below w2.heap.size w2 ((w2.alloc (.cells #[.int .u64 a0, .int .u64 b0] 55)).alloc (.cells #[.int .u64 u, .int .u64 v] 55)) := bl_al (bl_al (Below.refl _ _) _) _
  have BY := Lib.hid (bl_tr B2.out bY)
  have QA := Lib.hid (heap_alloc2_old w2 (.cells #[.int .u64 a0, .int .u64 b0] 55) (.cells #[.int .u64 u, .int .u64 v] 55))
  have QU := Lib.hid (heap_alloc2_new w2 (.cells #[.int .u64 a0, .int .u64 b0] 55) (.cells #[.int .u64 u, .int .u64 v] 55))
  have QR := Lib.hid ((bY.block _ (lt_hp Q2.out)).trans Q2.out)
  clear bY Q1 Q2 QZ
  generalize ((w2.alloc (.cells #[.int .u64 a0, .int .u64 b0] 55)).alloc (.cells #[.int .u64 u, .int .u64 v] 55)) = Y at *
  obtain ⟨d0, d1, -, -⟩ := two_row QU.out
  go_wp2_with fail
  refine (HCn.out _).mono ?_; rintro e w4 ⟨rfl, hb4⟩
  have B4 := Lib.hid (bl_tr BY.out hb4)
  have A4 := Lib.hid ((hb4.block _ (lt_hp QA.out)).trans QA.out)
  have U4 := Lib.hid ((hb4.block _ (lt_hp QU.out)).trans QU.out)
  have R4 := Lib.hid ((hb4.block _ (lt_hp QR.out)).trans QR.out)
  clear hb4 d0 d1 HCn
  by_cases hm : m < l
  · have hm2 : (m : Int) < (l : Int) := by omega
    obtain ⟨r0, r1, rf, rl⟩ := two_row R4.out
    have RS := Lib.hid (two_set R4.out (.int .u64 0) (.int .u64 0))
    have HE := Lib.hid (HNo.out ((w4.setCell ⟨w.heap.size, 0, none⟩ (.int .u64 0)).setCell ⟨w.heap.size, 1, none⟩ (.int .u64 0)) (fun q => q.1 hm) ((B4.out.setCell (p := ⟨w.heap.size, 0, none⟩) (Nat.le_refl _) _).setCell (p := ⟨w.heap.size, 1, none⟩) (Nat.le_refl _) _))
    obtain ⟨s0, s1, -, -⟩ := two_row RS.out
    go_wp2
    simp [bodyPost, results, Tryd.results49, go_sem, s0, s1]
    exact HE.out
  · have hm2 : ¬ (m : Int) < (l : Int) := by omega
    obtain ⟨a0', a1', -, -⟩ := two_row A4.out
    obtain ⟨u0', u1', -, -⟩ := two_row U4.out
    go_wp2_with fail
    refine (HIn.out _).mono ?_; rintro e w5 ⟨rfl, hb5⟩
    have B5 := Lib.hid (bl_tr B4.out hb5)
    have A5 := Lib.hid ((hb5.block _ (lt_hp A4.out)).trans A4.out)
    have U5 := Lib.hid ((hb5.block _ (lt_hp U4.out)).trans U4.out)
    have R5 := Lib.hid ((hb5.block _ (lt_hp R4.out)).trans R4.out)
    clear hb5 a0' a1' u0' u1' A4 U4 R4 B4 HIn
    by_cases ht : t1 = 0 ∧ t2 = 0
    · have hd : decide (t1 = 0 ∧ t2 = 0) = true := decide_eq_true ht
      obtain ⟨a0', a1', -, -⟩ := two_row A5.out
      obtain ⟨u0', u1', -, -⟩ := two_row U5.out
      rw [hd]
      go_wp2_with fail
      refine (HMi.out _).mono ?_; rintro e w6 ⟨rfl, hb6⟩
      have R6 := Lib.hid ((hb6.block _ (lt_hp R5.out)).trans R5.out)
      have B6 := Lib.hid (bl_tr B5.out hb6)
      clear hb6 a0' a1' u0' u1'
      obtain ⟨r0, r1, rf, rl⟩ := two_row R6.out
      have RS := Lib.hid (two_set R6.out (.int .u64 r1') (.int .u64 r2'))
      have HE := Lib.hid (HY.out ((w6.setCell ⟨w.heap.size, 0, none⟩ (.int .u64 r1')).setCell ⟨w.heap.size, 1, none⟩ (.int .u64 r2')) ⟨hm, ht⟩ ((B6.out.setCell (p := ⟨w.heap.size, 0, none⟩) (Nat.le_refl _) _).setCell (p := ⟨w.heap.size, 1, none⟩) (Nat.le_refl _) _))
      obtain ⟨s0, s1, -, -⟩ := two_row RS.out
      go_wp2
      simp [bodyPost, results, Tryd.results49, go_sem, s0, s1]
      exact HE.out
    · have hd : decide (t1 = 0 ∧ t2 = 0) = false := decide_eq_false ht
      obtain ⟨r0, r1, rf, rl⟩ := two_row R5.out
      have RS := Lib.hid (two_set R5.out (.int .u64 0) (.int .u64 0))
      have HE := Lib.hid (HNo.out ((w5.setCell ⟨w.heap.size, 0, none⟩ (.int .u64 0)).setCell ⟨w.heap.size, 1, none⟩ (.int .u64 0)) (fun q => ht q.2) ((B5.out.setCell (p := ⟨w.heap.size, 0, none⟩) (Nat.le_refl _) _).setCell (p := ⟨w.heap.size, 1, none⟩) (Nat.le_refl _) _))
      obtain ⟨s0, s1, -, -⟩ := two_row RS.out
      rw [hd]
      go_wp2
      simp [bodyPost, results, Tryd.results49, go_sem, s0, s1]
      exact HE.out
end Go.Proofs.YtlhpiikpmmlpeaaDoor

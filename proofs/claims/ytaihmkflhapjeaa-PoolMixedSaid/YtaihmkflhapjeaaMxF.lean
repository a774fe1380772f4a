/-
  PoolMixed: what each piece of a round leaves; run of an act that is over.
-/
import Derived.Test.YtaihmkflhapjeaaMxE
namespace Go.Proofs.Ytaihmkflhapjeaa
open Go.RowKit Go.MuLone
set_option linter.unusedVariables false
section
variable {a : Nat} {A : Ad} {wk : Int} {gv : Bool} {sl tp bl : Int} {w : World}
theorem run_over (ha : Ac a A wk gv 4 sl tp bl w) : Calls Try.prog 23 #[.pointer (some ⟨a, 0, none⟩)] w fun e w' => e = .returned (.int .i64 0) ∧ w = w' := by
  have O := Lib.hid (over_any true rfl ha)
  clear ha
  go_enter Try.func23, Try.ntmps23
  go_wp2_with fail
  refine wp_loop_rounds 1 ?_
  rw [rounds_succ]
  go_wp2_with fail
  refine O.out.mono ?_; rintro e w1 ⟨rfl, rfl⟩
  clear O
  go_wp2
  go_ret
  exact ⟨rfl, rfl⟩
end
section
variable {A : Ad} {nv : Nat → Value} {nb : Nat → Int} {hd : Nat → Bool} {ow : Nat → Value} {l : List Int} {s b : Int} {own : Nat → List Nat} {st : List Nat} {loc loc' : Nat → Loc} {ac ac2 : Nat → Option Xa} {B i : Nat} {H : List Nat} {w0 w w1 : World} {x : Xa}
variable {q g cap qa qh : Nat} {hvv : Nat → Int} {hl : Nat → Value} {L : Nat → List Nat} {bx : Nat → Nat} {fr : Nat → Int}
/-- a new list is stored -/
theorem mx_add {v : Value} {L' : List Nat} {X2 : World} (hM : Mx A nv nb hd ow l s own st loc ac B H w) (hL : Lv q g A.n cap qa qh B H hvv hl L bx fr ac2 w) (hi : i < 4) (k : Tw (vblk (hl i)) w X2) (ho : Oh B v L' X2) (hv : ∀ b, b ∈ vblk v → b ∈ vblk (hl i) ∨ w.heap.size ≤ b) :
    Mx A nv nb hd ow l s own st loc ac B (vblk v ++ H) (X2.setCell ⟨qh, i, none⟩ v) ∧ Lv q g A.n cap qa qh B (vblk v ++ H) hvv (upf hl i v) (upf L i L') bx fr ac2 (X2.setCell ⟨qh, i, none⟩ v) := by
  have k2 : Tw (qh :: vblk (hl i)) w (X2.setCell ⟨qh, i, none⟩ v) := (k.mono (fun j hj => List.mem_cons_of_mem _ hj)).st qh (.inl (by simp)) i _
  refine ⟨mx_app hM k2 (fun c hc => ?_) (fun c hc => ⟨?_, ?_⟩), hL.app hi (fun c hc => hM.hw c hc) k ho hv⟩
  · rcases List.mem_cons.mp hc with e | e
    · subst e; exact hL.mem.2.2.2
    · exact (hL.mhl i hi c e).1
  · obtain ⟨_, cur, h2⟩ := ho.blk c hc
    have := lt_hp h2
    simpa [World.setCell] using this
  · rcases hv c hc with e | e
    · exact .inl (hL.mhl i hi c e).1
    · exact .inr e
/-- a store into a block that the law keeps -/
theorem mx_st (hM : Mx A nv nb hd ow l s own st loc ac B H w) {c : Nat} (hc : c ∈ H) (j : Nat) (v : Value) : Mx A nv nb hd ow l s own st loc ac B H (w.setCell ⟨c, j, none⟩ v) :=
  hM.aside (S := [c]) ((Tw.refl _ w).st c (.inl (by simp)) j v) (fun k hk => by simp at hk; subst hk; exact hc)
theorem below_st {B : Nat} {w0 w : World} (h : Below B w0 w) (hB : B ≤ w.heap.size) {c : Nat} (hc : B ≤ c) (j : Nat) (v : Value) : Below B w0 (w.setCell ⟨c, j, none⟩ v) :=
  Tw.below (S := [c]) h ((Tw.refl _ w).st c (.inl (by simp)) j v) (fun k hk => by simp at hk; subst hk; exact hc) hB
/-- a round that goes on: nothing is over -/
theorem jt_same (hM : Mx A nv nb hd ow l s own st loc' ac B H w) (hL : Lv q g A.n cap qa qh B H hvv hl L bx fr ac w) (hR : Rl A.n hvv L loc) (hs : s ≤ b) (hb : Below B w0 w) (hH : ∀ c, c ∈ H → B ≤ c) (hf : ∀ k, k < A.n → (Free (loc' k) ↔ Free (loc k))) (hh : ∀ k j, loc' k = .hold j ↔ loc k = .hold j) : Jt A q g cap qa qh B w0 b w :=
  ⟨_, _, _, _, _, _, _, _, _, _, _, _, _, _, _, _, hM, hL, hR.same hf hh, hs, hb, hH⟩
/-- an act is over -/
theorem mx_off (hM : Mx A nv nb hd ow l s own st loc (upf ac i none) B H w) (hL : Lv q g A.n cap qa qh B H hvv hl L bx fr ac w) (hi : i < 4) : Mx A nv nb hd ow l s own st loc (upf ac i none) B H (w.setCell ⟨qa, i, none⟩ (.pointer none)) ∧ Lv q g A.n cap qa qh B H hvv hl L bx fr (upf ac i none) (w.setCell ⟨qa, i, none⟩ (.pointer none)) :=
  ⟨mx_st hM hL.mem.2.2.1 i _, hL.over hi⟩
theorem mx_tell {m : Nat} (hM : Mx A nv nb hd ow l s own st loc ac B H w) (hL : Lv q g A.n cap qa qh B H hvv hl L bx fr ac2 w) (hm : m < A.n) (v : Int) : Mx A nv nb hd ow l s own st loc ac B H (w.setCell ⟨g, m, none⟩ (.int .i64 v)) ∧ Lv q g A.n cap qa qh B H (upf hvv m v) hl L bx fr ac2 (w.setCell ⟨g, m, none⟩ (.int .i64 v)) :=
  ⟨mx_st hM hL.mem.2.1 m _, hL.tell hm v⟩
theorem jt_back {m : Nat} (hM : Mx A nv nb hd ow l s own st loc' ac B H w) (hL : Lv q g A.n cap qa qh B H hvv hl L bx fr ac w) (hR : Rl A.n hvv L loc) (hs : s ≤ b) (hb : Below B w0 w) (hH : ∀ c, c ∈ H → B ≤ c) (hm : m < A.n) (hf : Free (loc' m)) (hf2 : ∀ k, k < A.n → k ≠ m → (Free (loc' k) ↔ Free (loc k))) (hh : ∀ k j, loc' k = .hold j ↔ loc k = .hold j) :
    Jt A q g cap qa qh B w0 b (w.setCell ⟨g, m, none⟩ (.int .i64 (-1))) := by
  obtain ⟨m1, m2⟩ := mx_tell hM hL hm (-1)
  exact ⟨_, _, _, _, _, _, _, _, _, _, _, _, _, _, _, _, m1, m2, hR.back hm hf hf2 hh, hs, below_st hb hM.hB (hH _ hL.mem.2.1) m _, hH⟩
theorem tw_bel {S : List Nat} {B : Nat} {w0 w w1 : World} (hb : Below B w0 w) (k : Tw S w w1) (hS : ∀ c, c ∈ S → B ≤ c) (hB : B ≤ w.heap.size) : Below B w0 w1 := Tw.below hb k hS hB
theorem jt_took {m : Nat} {v : Value} {X2 : World} (hM : Mx A nv nb hd ow l s own st loc' ac B H w) (hL : Lv q g A.n cap qa qh B H hvv hl L bx fr ac w) (hR : Rl A.n hvv L loc) (hs : s ≤ b) (hb : Below B w0 w) (hH : ∀ c, c ∈ H → B ≤ c) (hi : i < 4) (hm : m < A.n) (hf0 : Free (loc m)) (hf : ¬ Free (loc' m)) (hf2 : ∀ k, k < A.n → k ≠ m → (Free (loc' k) ↔ Free (loc k))) (hh : ∀ k j, loc' k = .hold j ↔ (k = m ∧ j = i) ∨ (k ≠ m ∧ loc k = .hold j))
    (k : Tw (vblk (hl i)) (w.setCell ⟨g, m, none⟩ (.int .i64 (i : Int))) X2) (ho : Oh B v (L i ++ [m]) X2) (hv : ∀ b, b ∈ vblk v → b ∈ vblk (hl i) ∨ w.heap.size ≤ b) :
    Jt A q g cap qa qh B w0 b (X2.setCell ⟨qh, i, none⟩ v) := by
  obtain ⟨m1, m2⟩ := mx_tell hM hL hm (i : Int)
  have sz : (w.setCell ⟨g, m, none⟩ (.int .i64 (i : Int))).heap.size = w.heap.size := by simp [World.setCell]
  obtain ⟨n1, n2⟩ := mx_add m1 m2 hi k ho (fun c hc => by rw [sz]; exact hv c hc)
  have b1 := below_st hb hM.hB (hH _ hL.mem.2.1) m (.int .i64 (i : Int))
  have hB1 : B ≤ (w.setCell ⟨g, m, none⟩ (.int .i64 (i : Int))).heap.size := by rw [sz]; exact hM.hB
  have b2 : Below B w0 X2 := tw_bel b1 k (fun c hc => hH _ (hL.mhl i hi c hc).1) hB1
  refine ⟨_, _, _, _, _, _, _, _, _, _, _, _, _, _, _, _, n1, n2, (hR.took hi hm hf0 hf hf2 hh).2, hs, below_st b2 (Nat.le_trans hB1 k.size) (hH _ hL.mem.2.2.2) i v, fun c hc => ?_⟩
  rcases List.mem_append.mp hc with e | e
  · rcases hv c e with e2 | e2
    · exact hH _ (hL.mhl i hi c e2).1
    · exact Nat.le_trans hM.hB e2
  · exact hH c e
/-- a Give's new list, and its act -/
theorem mx_drop {v : Value} {L' : List Nat} {X2 : World} (hM : Mx A nv nb hd ow l s own st loc ac B H w) (hL : Lv q g A.n cap qa qh B H hvv hl L bx fr ac w) (hi : i < 4) (hb : Below w.heap.size w X2) (ho : Oh w.heap.size v L' X2) :
    Mx A nv nb hd ow l s own st loc ac B (vblk v ++ H) (X2.setCell ⟨qh, i, none⟩ v) ∧ Lv q g A.n cap qa qh B (vblk v ++ H) hvv (upf hl i v) (upf L i L') bx fr ac (X2.setCell ⟨qh, i, none⟩ v) ∧ ∀ c, c ∈ vblk v → B ≤ c := by
  have hv : ∀ c, c ∈ vblk v → w.heap.size ≤ c := fun c hc => (ho.blk c hc).1
  obtain ⟨h1, h2⟩ := mx_add hM hL hi (Tw.of hb) (show Oh B v L' X2 from ⟨ho.1, by
    rcases ho.2 with h | ⟨g, cap, cur, h1, h2, h3⟩
    · exact .inl h
    · exact .inr ⟨g, cap, cur, h1, Nat.le_trans hM.hB h2, h3⟩⟩) (fun c hc => .inr (hv c hc))
  exact ⟨h1, h2, fun c hc => Nat.le_trans hM.hB (hv c hc)⟩
/-- what a Take under way may have met -/
theorem mx_from {j : Nat} {y : Xa} (hM : Mx A nv nb hd ow l s own st loc ac B H w) (hL : Lv q g A.n cap qa qh B H hvv hl L bx fr ac2 w) (hj : j < 4) (hy : ac2 j = some y) (v : Int) (h0 : 0 ≤ v) (h1 : v ≤ 10000) :
    Mx A nv nb hd ow l s own st loc ac B H (w.setCell ⟨bx j, 3, none⟩ (.int .i64 v)) ∧ Lv q g A.n cap qa qh B H hvv hl L bx (upf fr j v) ac2 (w.setCell ⟨bx j, 3, none⟩ (.int .i64 v)) ∧ ∀ {a : Nat} {wk : Int} {gv : Bool} {nx sl tp bl : Int}, Ac a A wk gv nx sl tp bl w → a ∉ H → Ac a A wk gv nx sl tp bl (w.setCell ⟨bx j, 3, none⟩ (.int .i64 v)) := by
  have hm := hL.mbx j hj y hy
  refine ⟨mx_st hM hm 3 _, hL.from hj hy v h0 h1, fun ha hn => ha.keep (S := [bx j]) ((Tw.refl _ w).st _ (.inl (by simp)) 3 _) (fun e => ?_)⟩
  simp at e
  subst e
  exact hn hm
end
end Go.Proofs.Ytaihmkflhapjeaa

/-
  assign: rest, walked.
-/
import Derived.Test.YtlhpiikpmmlpeaaDoorAt
import Derived.Test.YtlhpiikpmmlpeaaDoorSe2
import Derived.Test.YtlhpiikpmmlpeaaDoorSti
import Derived.Sort.CutIn
namespace Go.Proofs.YtlhpiikpmmlpeaaDoor
open Go.RowKit Go.Shelf
set_option linter.unusedVariables false
set_option linter.unusedSimpArgs false
attribute [local go_sem] Oper.semAt_some
theorem ownFrom_but {β : Type} {X : World} {g B : Nat} (hB : X.heap.size ≤ B) : OwnFrom B (fun (_ : β) W => X.grownBy W (some g)) := fun s W W' row hs hg hr =>
  ⟨hg.os.trans hs.os, hg.tape.trans hs.tape, hg.output.trans hs.output, Nat.le_trans hs.size hg.size, fun i hi hne => (hg.block i (Nat.lt_of_lt_of_le hi hs.size) (fun e => by have := (hr i e.symm).1; omega)).trans (hs.block i hi hne)⟩
theorem below_but {X W : World} {B g : Nat} (h : X.grownBy W (some g)) (hB : B ≤ g) (hX : B ≤ X.heap.size) : Below B X W :=
  ⟨h.os, h.tape, h.output, h.size, fun i hi => h.block i (by omega) (fun e => by injection e with e; omega)⟩
/-- rest's variables in memory -/
structure RS (w : World) (x y ga b8 n : Nat) (sm : Int) (al : List Int) (W : World) : Prop where
  set : W.heap[w.heap.size]? = some (.cells #[.int .u64 x, .int .u64 y] 55 (0, 0))
  sum : Boxed W (w.heap.size + 1) 3 (.int .i64 sm)
  abx : Boxed W b8 22 (.slice (some ⟨ga, 0, none⟩) n n)
  ab : Blk W ga al
  bel : Below w.heap.size w W
  lt : w.heap.size + 1 < ga ∧ ga < b8
def vals {x y : Nat} (l : List (st.Nm x y)) : List Int := l.map (·.1)
theorem vals_snoc {x y : Nat} (l : List (st.Nm x y)) (z : st.Nm x y) : vals (l ++ [z]) = vals l ++ [z.1] := by unfold vals; simp
theorem vals_mem {x y : Nat} {l : List (st.Nm x y)} {v : Int} (h : v ∈ vals l) : v ∈ st.both x y := by
  unfold vals at h
  obtain ⟨a, _, rfl⟩ := List.mem_map.1 h
  exact a.2
attribute [irreducible] vals
theorem gr_dr {X W : World} {r : Option Nat} (h : X.grownBy W r) : X.grownBy W.drew r := ⟨h.os, h.tape, h.output, h.size, h.block⟩
/-- a store into the one block that a round turns -/
theorem one_step {X W : World} {g : Nat} (hg : X.grownBy W (some g)) (B n0 : Nat) (hn : n0 ≤ g) (j : Nat) (v : Value) :
    KeepsFrom B W (W.setCell ⟨g, j, none⟩ v).drew ∧ Below n0 W (W.setCell ⟨g, j, none⟩ v).drew ∧ X.grownBy (W.setCell ⟨g, j, none⟩ v).drew (some g) :=
  ⟨((KeepsOthers.setCell W ⟨g, j, none⟩ v).from B).trans ((KeepsOthers.drew _).from B), ((Below.refl n0 W).setCell (p := ⟨g, j, none⟩) hn v).drew, gr_dr (gr_set hg j v)⟩
/-- the marks that the loops leave -/
def Mk (B : Nat) : List Deferred → World → Prop
  | [], _ => True
  | d :: ds, W => (∃ D, d = { target := .collected D, args := #[] } ∧ B ≤ D ∧ W.heap[D]? = some (.deferred (some [])) ∧ ∀ d' D', d' ∈ ds → d' = { target := .collected D', args := #[] } → D' < D) ∧ Mk B ds W
theorem RS.up {w : World} {x y ga b8 n : Nat} {sm : Int} {al : List Int} {W W1 : World} (h : RS w x y ga b8 n sm al W) (hb : Below W.heap.size W W1) : RS w x y ga b8 n sm al W1 :=
  ⟨(hb.block _ (lt_hp h.set)).trans h.set, (hb.block _ h.sum.lt).trans h.sum, (hb.block _ h.abx.lt).trans h.abx, (hb.block _ (lt_hp h.ab)).trans h.ab, bl_tr h.bel hb, h.lt⟩
theorem ne_of {i g : Nat} (h : i ≠ g) : some i ≠ some g := fun e => by injection e with e; exact h e
theorem RS.gr {w : World} {x y ga b8 n g : Nat} {sm : Int} {al : List Int} {W W1 : World} (h : RS w x y ga b8 n sm al W) (hg : W.grownBy W1 (some g)) (g1 : g ≠ w.heap.size) (g2 : g ≠ w.heap.size + 1) (g3 : g ≠ b8) (g4 : g ≠ ga) (g5 : w.heap.size ≤ g) : RS w x y ga b8 n sm al W1 :=
  ⟨(hg.block _ (lt_hp h.set) (ne_of g1).symm).trans h.set, h.sum.kept hg (ne_of g2.symm), h.abx.kept hg (ne_of g3.symm), h.ab.kept hg (ne_of g4.symm), h.bel.trans (below_but hg g5 h.bel.size), h.lt⟩
theorem RS.ssum {w : World} {x y ga b8 n : Nat} {sm v : Int} {al : List Int} {W W1 : World} (h : RS w x y ga b8 n sm al W) (hg : W.grownBy W1 (some (w.heap.size + 1))) (hv : Boxed W1 (w.heap.size + 1) 3 (.int .i64 v)) : RS w x y ga b8 n v al W1 :=
  ⟨(hg.block _ (lt_hp h.set) (ne_of (by omega))).trans h.set, hv, h.abx.kept hg (ne_of (by have := h.lt; omega)), h.ab.kept hg (ne_of (by have := h.lt; omega)), h.bel.trans (below_but hg (by omega) h.bel.size), h.lt⟩
theorem RS.sab {w : World} {x y ga b8 n : Nat} {sm : Int} {al al' : List Int} {W W1 : World} (h : RS w x y ga b8 n sm al W) (hg : W.grownBy W1 (some ga)) (hv : Blk W1 ga al') : RS w x y ga b8 n sm al' W1 :=
  ⟨(hg.block _ (lt_hp h.set) (ne_of (by have := h.lt; omega))).trans h.set, h.sum.kept hg (ne_of (by have := h.lt; omega)), h.abx.kept hg (ne_of (by have := h.lt; omega)), hv, h.bel.trans (below_but hg (by have := h.lt; omega) h.bel.size), h.lt⟩
theorem Mk.gr {B g : Nat} {W W1 : World} {cs : Array Value} {t : TypeId} (hc : W.heap[g]? = some (.cells cs t (0, 0))) (hg : W.grownBy W1 (some g)) : ∀ {ds : List Deferred}, Mk B ds W → Mk B ds W1
  | [], _ => trivial
  | d :: ds, ⟨⟨D, e, h1, h2, h3⟩, h4⟩ => ⟨⟨D, e, h1, (hg.block D (lt_hp h2) (fun q => by
      injection q with q
      rw [q, hc] at h2
      cases h2)).trans h2, h3⟩, h4.gr hc hg⟩
theorem Mk.up {B : Nat} : ∀ {ds : List Deferred} {W W1 : World}, Mk B ds W → Below W.heap.size W W1 → Mk B ds W1
  | [], _, _, _, _ => trivial
  | d :: ds, W, W1, ⟨⟨D, e, h1, h2, h3⟩, h4⟩, hb => ⟨⟨D, e, h1, (hb.block D (lt_hp h2)).trans h2, h3⟩, h4.up hb⟩
theorem Mk.lt {B : Nat} {W : World} : ∀ {ds : List Deferred}, Mk B ds W → ∀ d' D', d' ∈ ds → d' = { target := .collected D', args := #[] } → D' < W.heap.size
  | [], _, d', D', hm, _ => by simp at hm
  | d :: ds, ⟨⟨D, e, h1, h2, h3⟩, h4⟩, d', D', hm, he => by
    rcases List.mem_cons.1 hm with q | q
    · subst q
      rw [e] at he
      injection he with he _
      injection he with he
      subst he
      exact lt_hp h2
    · exact h4.lt d' D' q he
theorem Mk.push {B D : Nat} {W W1 : World} {ds : List Deferred} (h : Mk B ds W) (h1 : Mk B ds W1) (hD : W.heap.size ≤ D) (hB : B ≤ D) (hK : W1.heap[D]? = some (.deferred (some []))) : Mk B ({ target := .collected D, args := #[] } :: ds) W1 :=
  ⟨⟨D, rfl, hB, hK, fun d' D' hm e => Nat.lt_of_lt_of_le (h.lt d' D' hm e) hD⟩, h1⟩
theorem Mk.put {B D : Nat} {W : World} {o : Obj} (hD : D < W.heap.size) : ∀ {ds : List Deferred}, Mk B ds W → (∀ d' D', d' ∈ ds → d' = { target := .collected D', args := #[] } → D' < D) → Mk B ds (W.putObj D o)
  | [], _, _ => trivial
  | d :: ds, ⟨⟨D1, e, h1, h2, h3⟩, h4⟩, hlt => by
    have q := hlt d D1 (List.mem_cons_self ..) e
    exact ⟨⟨D1, e, h1, by rw [World.putObj_heap_other (by omega)]; exact h2, h3⟩, h4.put hD (fun d' D' hm he => hlt d' D' (List.mem_cons_of_mem _ hm) he)⟩
/-- the marks are taken one by one -/
theorem Mk.unwind {B : Nat} {F : Fence} {n : Nat} {P : Program} {fn : Func} {tmps : Array Value} {R : Ending → World → Prop} : ∀ (ds : List Deferred) (W : World), Mk B ds W → (∀ W', Below B W W' → LeavesIn F n P fn tmps R [] .returning W') → LeavesInM F n P fn tmps R ds .returning W
  | [], W, _, h => h W (Below.refl _ _)
  | d :: ds, W, ⟨⟨D, e, h1, h2, h3⟩, h4⟩, h => by
    refine ⟨by simp, .inl ⟨D, _, by rw [e], run_takeDeferred h2, ?_⟩⟩
    exact Mk.unwind ds _ (h4.put (lt_hp h2) h3) (fun W' hb => h W' (Below.trans (below_but (grownBy_putObj' W D _) h1 (by have := lt_hp h2; omega)) hb))
/-- what rest answers -/
def restR (n : Nat) (cl : List (List Int)) (F : List Int) (fr : Nat) : Int := smv (rst n cl F fr (n - fr)).2 F (rst n cl F fr (n - fr)).1
theorem smv_bd (al : List Int) : ∀ (pre : List Int) (s : Int), (∀ c ∈ pre, 0 ≤ od.nth al c.toNat ∧ od.nth al c.toNat ≤ 2147483647) → s ≤ smv al pre s ∧ smv al pre s ≤ s + pre.length * 2147483647
  | [], s, _ => ⟨Int.le_refl _, by show s ≤ _; simp⟩
  | a :: r, s, h => by
    have ha := h a (List.mem_cons_self ..)
    obtain ⟨i1, i2⟩ := smv_bd al r (s + od.nth al a.toNat) (fun c hc => h c (List.mem_cons_of_mem _ hc))
    rw [List.length_cons]
    push_cast
    exact ⟨by show s ≤ smv al r (s + od.nth al a.toNat); omega, by show smv al r (s + od.nth al a.toNat) ≤ _; omega⟩
set_option maxRecDepth 100000 in
set_option maxHeartbeats 16000000 in
theorem rest_any {B b n : Nat} {cl : List (List Int)} (from' : Nat) (x y : Nat) (hx : x < 18446744073709551616) (hy : y < 18446744073709551616) (w : World) (hT : st.T64 w) (h : AK B b n cl w) (hf : from' ≤ n) (F : List Int) (hF : st.both x y = F) (hFn : ∀ v ∈ F, 0 ≤ v ∧ v < n) (hFl : F.length = n - from') (hE : ∀ r c : Nat, r < n → c < n → 0 ≤ od.nth (cl[r]?.getD []) c ∧ od.nth (cl[r]?.getD []) c ≤ 2147483647) :
    Calls Tryd.prog 54 #[.pointer (some ⟨b, 0, none⟩), .int .i64 from', .agg #[.int .u64 x, .int .u64 y]] w fun e w' => e = .returned (.int .i64 (restR n cl F from')) ∧ Below w.heap.size w w' := by
  have HD := Lib.hid (fun (W : World) (hb : Below w.heap.size w W) => depth_any (h.keep hb))
  have n1 := h.2.1
  have n24 := h.2.2.1
  have hne : from' < n → F ≠ [] := fun q e => by rw [e] at hFl; simp at hFl; omega
  have hsz := hT.1
  refine (callsIn_wide (n := 8)).1 ?_
  refine callsIn_of_wp_marks Tryd.func54 rfl trivial ?_ rfl
  simp only [Tryd.ntmps54, List.size_toArray, List.length_cons, List.length_nil, Nat.reduceAdd, Nat.reduceSub, Array.replicate_succ, Array.replicate_zero, List.push_toArray, List.append_toArray, List.nil_append, List.cons_append]
  gi_wp2_with fail
  obtain ⟨V, hV⟩ : ∃ V, V = (((w.alloc (.cells #[.int .u64 x, .int .u64 y] 55)).alloc (.cells #[.int .i64 0] 3)).alloc (.cells #[.int .i64 9223372036854775807] 3)) := ⟨_, rfl⟩
  have bV : Below w.heap.size w V := by rw [hV]; exact bl_al (bl_al (bl_al (Below.refl _ w) _) _) _
  have vs : V.heap.size = w.heap.size + 1 + 1 + 1 := by rw [hV]; simp
  have v5 : V.heap[w.heap.size]? = some (.cells #[.int .u64 x, .int .u64 y] 55 (0, 0)) := by
    rw [hV]
    exact ((bl_al (bl_al (Below.refl _ (w.alloc (.cells #[.int .u64 x, .int .u64 y] 55))) (.cells #[.int .i64 0] 3)) (.cells #[.int .i64 9223372036854775807] 3)).block _ (by simp)).trans (heap_alloc_new w _)
  have v7 : Boxed V (w.heap.size + 1) 3 (.int .i64 0) := by
    rw [hV]
    have := (Boxed.new (w.alloc (.cells #[.int .u64 x, .int .u64 y] 55)) 3 (.int .i64 0)).alloc (.cells #[.int .i64 9223372036854775807] 3)
    rw [World.size_alloc] at this
    exact this
  have v15 : V.cell? ⟨w.heap.size + 1 + 1, 0, none⟩ = some (.int .i64 9223372036854775807) := by
    rw [hV]
    have := Boxed.new ((w.alloc (.cells #[.int .u64 x, .int .u64 y] 55)).alloc (.cells #[.int .i64 0] 3)) 3 (.int .i64 9223372036854775807)
    rw [World.size_alloc, World.size_alloc] at this
    exact this.cell
  rw [← hV]
  clear hV
  refine ⟨trivial, ?_⟩
  refine (callsIn_wide.2 (HD.out V bV)).mono ?_
  rintro e w1 ⟨rfl, rfl⟩
  gi_wp2_with fail
  refine ⟨trivial, ?_⟩
  refine (callsIn_wide.2 (repeat_any 9223372036854775807 n n1 (by omega) (w.heap.size + 1 + 1) V v15 (by omega))).mono ?_
  rintro e w2 ⟨ga, rfl, ho⟩
  have hgb := own_blk ho
  have b2 := ho.2.2.2
  have g2 : V.heap.size ≤ ga := ho.2.1
  have w5 := (b2.block _ (by omega)).trans v5
  have w7 : Boxed w2 (w.heap.size + 1) 3 (.int .i64 0) := (b2.block _ (by omega)).trans v7
  clear ho v5 v7 v15
  gi_wp2
  have hrs : RS w x y ga w2.heap.size n (rst n cl F from' (from' - from')).1 (rst n cl F from' (from' - from')).2 (w2.alloc (.cells #[.slice (some ⟨ga, 0, none⟩) n n] 22)) := by
    have ba : Below w2.heap.size w2 (w2.alloc (.cells #[.slice (some ⟨ga, 0, none⟩) n n] 22)) := bl_al (Below.refl _ w2) _
    rw [Nat.sub_self]
    exact ⟨(ba.block _ (lt_hp w5)).trans w5, (ba.block _ w7.lt).trans w7, Boxed.new w2 22 _, (ba.block _ (lt_hp hgb)).trans hgb, bl_tr (bl_tr bV b2) ba, by omega, lt_hp hgb⟩
  obtain ⟨b8, hb8⟩ : ∃ b8, b8 = w2.heap.size := ⟨_, rfl⟩
  rw [← hb8] at hrs ⊢
  clear hb8
  generalize (w2.alloc (.cells #[.slice (some ⟨ga, 0, none⟩) n n] 22)) = Y at *
  refine wpIn_loop (fun a W => ∃ (k : Nat) (ds : List Deferred) (u10 u11 u20 u21 u22 u23 u24 u25 u26 u27 u28 u29 u30 u31 u32 u33 u34 u42 u43 u44 u45 u46 : Value), a = { tmps := #[.pointer (some ⟨b, 0, none⟩), .int .i64 (from' : Int), .agg #[.int .u64 x, .int .u64 y], undef, undef, .pointer (some ⟨w.heap.size, 0, none⟩), .int .i64 0, .pointer (some ⟨w.heap.size + 1, 0, none⟩), .pointer (some ⟨b8, 0, none⟩), .int .i64 (k : Int), u10, u11, undef, undef, undef, .slice (some ⟨w.heap.size + 1 + 1, 0, none⟩) 1 1, .pointer (some ⟨b, 0, none⟩), .int .i64 (n : Int), .slice (some ⟨ga, 0, none⟩) n n, .int .i64 (from' : Int), u20, u21, u22, u23, u24, u25, u26, u27, u28, u29, u30, u31, u32, u33, u34, undef, undef, undef, undef, undef, undef, undef, u42, u43, u44, u45, u46, undef, undef, undef, undef, undef, undef, undef, undef, undef, undef, undef, undef, undef, undef, undef, undef, undef, undef, undef, undef, undef, undef, undef, undef, undef], defers := ds } ∧ from' ≤ k ∧ k ≤ n ∧ Mk w.heap.size ds W ∧ RS w x y ga b8 n (rst n cl F from' (k - from')).1 (rst n cl F from' (k - from')).2 W) (fun a _ => n - (intOf (a.tmps.getD 9 undef)).toNat) ⟨from', [], _, _, _, _, _, _, _, _, _, _, _, _, _, _, _, _, _, _, _, _, _, _, rfl, Nat.le_refl _, hf, trivial, hrs⟩ ?_
  clear hrs
  rintro a W ⟨k, ds, u10, u11, u20, u21, u22, u23, u24, u25, u26, u27, u28, u29, u30, u31, u32, u33, u34, u42, u43, u44, u45, u46, rfl, hk1, hk2, hm, hr⟩
  have hbW := hr.bel
  by_cases hlt : k < n
  · have p1 : (k : Int) < (n : Int) := by omega
    have p0 : (0 : Int) ≤ (k : Int) := by omega
    obtain ⟨_, _, _, gt, kc, hq, _, hj⟩ := h
    obtain ⟨gr, cr, hc, hi, hil, hgt⟩ := hj.row hlt
    have hgr := hi.lt
    have hq := (hbW.block _ (lt_hp hq)).trans hq
    have hc := (hbW.cell (p := ⟨gt, k, none⟩) hgt).trans hc
    have hi := hi.keep hbW
    have h8 := hr.abx.lt
    have hga := lt_hp hr.ab
    have hlt2 := hr.lt
    have hw0 := lt_hp hr.set
    have kb := (two_row hr.set)
    have c5 := kb.1
    have c5' := kb.2.1
    have cb : W.cell? ⟨b, 0, none⟩ = some (.slice (some ⟨gt, 0, none⟩) n kc) := by rw [cell_of_row _ _ _ _ _ _ hq]; rfl
    clear kb hq hj
    gi_wp2_with fail
    refine ⟨trivial, ?_⟩
    refine (callsIn_wide.2 (HD.out W hbW)).mono ?_
    rintro e w3 ⟨rfl, rfl⟩
    gi_upto_region 7 with fail
    have bZ : Below W.heap.size W ((W.alloc (.cells #[.slice (some ⟨gr, 0, none⟩) n cr] 22)).alloc (.cells #[.int .i64 9223372036854775807] 3)) := bl_al (bl_al (Below.refl _ W) _) _
    have zs : ((W.alloc (.cells #[.slice (some ⟨gr, 0, none⟩) n cr] 22)).alloc (.cells #[.int .i64 9223372036854775807] 3)).heap.size = W.heap.size + 1 + 1 := by simp
    have hrZ := hr.up bZ
    have z10 := (Boxed.new W 22 (.slice (some ⟨gr, 0, none⟩) n cr)).alloc (.cells #[.int .i64 9223372036854775807] 3)
    have z11 := Boxed.new (W.alloc (.cells #[.slice (some ⟨gr, 0, none⟩) n cr] 22)) 3 (.int .i64 9223372036854775807)
    rw [World.size_alloc] at z11
    have mZ := hm.up bZ
    have iZ := hi.keep bZ
    clear c5 c5' cb hc hr hm hi
    generalize ((W.alloc (.cells #[.slice (some ⟨gr, 0, none⟩) n cr] 22)).alloc (.cells #[.int .i64 9223372036854775807] 3)) = Z at *
    have kb := (two_row hrZ.set)
    have c5 := kb.1
    have c5' := kb.2.1
    clear kb
    gi_wp2_with (refine ⟨trivial, ?_⟩; gi_at_call 82; refine (callsIn_wide.2 (st.all_any x y _)).mono ?_; rintro e w4 ⟨rfl, rfl⟩)
    have bX : Below Z.heap.size Z (Z.alloc (.cells #[.int .u64 x, .int .u64 y] 55)) := bl_al (Below.refl _ Z) _
    have hX := hrZ.up bX
    have x10 := z10.alloc (.cells #[.int .u64 x, .int .u64 y] 55)
    have x11 := z11.alloc (.cells #[.int .u64 x, .int .u64 y] 55)
    have mX := mZ.up bX
    have iX := iZ.keep bX
    have qX := two_row (heap_alloc_new Z (.cells #[.int .u64 x, .int .u64 y] 55))
    rw [zs] at qX
    have d0 := qX.1
    have d1 := qX.2.1
    have lX := qX.2.2.2
    have wX := bl_tr bZ bX
    clear c5 c5' hrZ z10 z11 mZ iZ qX
    generalize (Z.alloc (.cells #[.int .u64 x, .int .u64 y] 55)) = X at *
    refine wpIn_rangeFunc_ownG rfl (by omega) (gf := 93) (lb := #[.pointer (some ⟨W.heap.size + 1 + 1, 0, none⟩)]) rfl trivial (enters_of Tryd.func93 (by kernel_rfl) rfl)
      (st.all_stopsM (8 - 1) (by omega) (W.heap.size + 1 + 1) w.heap.size x y hx hy X hsz lX hX.bel.size (hT.keep hX.bel) d0 d1) belowK_t (belowK_b (by have := hX.bel.size; omega)) (Below.refl _ _) (fun _ => rfl)
      (fun (pre : List (st.Nm x y)) W' => Boxed W' (W.heap.size + 1) 3 (.int .i64 (lea (cl[k]?.getD []) (vals pre))) ∧ X.grownBy W' (some (W.heap.size + 1)))
      (fun _ _ _ => False)
      (OwnFrom.and (Own.from (boxed_own (W.heap.size + 1) 3 (fun pre : List (st.Nm x y) => Value.int .i64 (lea (cl[k]?.getD []) (vals pre)))) _) (ownFrom_but (Nat.le_refl _)))
      (fun _ _ _ _ _ hs _ _ => hs)
      ⟨by unfold vals; exact x11, World.grownBy.refl X _⟩
      (fun v => { tmps := #[.pointer (some ⟨b, 0, none⟩), .int .i64 (from' : Int), .agg #[.int .u64 x, .int .u64 y], undef, undef, .pointer (some ⟨w.heap.size, 0, none⟩), .int .i64 0, .pointer (some ⟨w.heap.size + 1, 0, none⟩), .pointer (some ⟨b8, 0, none⟩), .int .i64 (k : Int), .pointer (some ⟨W.heap.size, 0, none⟩), .pointer (some ⟨W.heap.size + 1, 0, none⟩), .int .i64 v.1, undef, undef, .slice (some ⟨w.heap.size + 1 + 1, 0, none⟩) 1 1, .pointer (some ⟨b, 0, none⟩), .int .i64 (n : Int), .slice (some ⟨ga, 0, none⟩) n n, .int .i64 (from' : Int), .int .i64 (k : Int), .pointer (some ⟨b, 0, none⟩), .int .i64 (n : Int), .bool true, u24, u25, .pointer (some ⟨b, 0, none⟩), .pointer (some ⟨b, 0, none⟩), .pointer (some ⟨b, 0, none⟩), .slice (some ⟨gt, 0, none⟩) n kc, .int .i64 (k : Int), .pointer (some ⟨gt, k, none⟩), .slice (some ⟨gr, 0, none⟩) n cr, .agg #[.int .u64 x, .int .u64 y], .func (.func 93) #[] #[.pointer (some ⟨W.heap.size + 1 + 1, 0, none⟩)], .int .i64 v.1, undef, undef, undef, undef, undef, undef, u42, u43, u44, u45, u46, undef, undef, undef, undef, undef, undef, undef, undef, undef, undef, undef, undef, undef, undef, undef, undef, undef, undef, undef, undef, undef, undef, undef, undef, undef], defers := [] }) ?assign ?body ?done ?stop
    case assign =>
      intro l v W' K hK
      gi_wp2
      exact hK
    case stop =>
      rintro D c pre W' _ _ h _
      exact h.elim
    case body =>
      rintro l pre z W' ⟨hb1, hg1⟩ hlt1
      have hz := hFn z.1 (by rw [← hF]; exact z.2)
      obtain ⟨zn, hzn⟩ : ∃ zn : Nat, z.1 = (zn : Int) := ⟨z.1.toNat, by omega⟩
      have z0 : (0 : Int) ≤ (zn : Int) := by omega
      have z1 : (zn : Int) < (n : Int) := by omega
      have e10 : Boxed W' (W.heap.size) 22 (.slice (some ⟨gr, 0, none⟩) n cr) := x10.kept hg1 (fun e => by injection e with e; omega)
      have d10 := e10.cell
      have d11 := hb1.cell
      have f11 := hb1.frozen
      have cz : W'.cell? ⟨gr, zn, none⟩ = some (.int .i64 (od.nth (cl[k]?.getD []) zn)) := by
        have ix := iX.same (hg1.block gr (by have := wX.size; omega) (ne_of (show gr ≠ W.heap.size + 1 by omega)))
        obtain ⟨bb, oo, ee, _, mm⟩ := ix.ints zn (by rw [hil]; omega)
        injection ee with ee
        injection ee with e1 e2
        subst e1 e2
        rw [Nat.zero_add] at mm
        rw [mm]
        unfold od.nth
        rfl
      have ST := fun v => one_step hg1 X.heap.size w.heap.size (by have := hbW.size; omega) 0 v
      have HV : Hid (∀ v : Int, v = min (lea (cl[k]?.getD []) (vals pre)) (od.nth (cl[k]?.getD []) zn) → KeepsFrom X.heap.size W' (W'.setCell ⟨W.heap.size + 1, 0, none⟩ (.int .i64 v)).drew ∧ Below w.heap.size W' (W'.setCell ⟨W.heap.size + 1, 0, none⟩ (.int .i64 v)).drew ∧ (Boxed (W'.setCell ⟨W.heap.size + 1, 0, none⟩ (.int .i64 v)).drew (W.heap.size + 1) 3 (.int .i64 (lea (cl[k]?.getD []) (vals (pre ++ [z])))) ∧ X.grownBy (W'.setCell ⟨W.heap.size + 1, 0, none⟩ (.int .i64 v)).drew (some (W.heap.size + 1)))) := Lib.hid fun v hv => by
        obtain ⟨s1, s2, s3⟩ := ST (.int .i64 v)
        refine ⟨s1, s2, ?_, s3⟩
        rw [vals_snoc, lea_snoc, hzn, Int.toNat_natCast, ← hv]
        exact hb1.set _
      clear ST
      rw [hzn]
      have hmx : Tryd.prog.follows .mixedOrders = true := by kernel_rfl
      gi_wp2
      gi_region_with_o (fail)
      all_goals gi_wp2
      all_goals exact HV.out _ (by omega)
    case done =>
      rintro D ys W' hD hys ⟨hb1, hg1⟩ hK
      have hv : vals ys = F := by unfold vals; rw [← hF]; exact hys
      rw [hv] at hb1
      have lb := hbW.size
      have r1 := hX.gr hg1 (by omega) (by omega) (by omega) (by omega) (by omega)
      have m1 := mX.push (Mk.gr x11 hg1 mX) hD (by have := wX.size; omega) hK
      have e10 : Boxed W' (W.heap.size) 22 (.slice (some ⟨gr, 0, none⟩) n cr) := x10.kept hg1 (ne_of (by omega))
      have i1 := iX.same (hg1.block gr (by have := wX.size; omega) (ne_of (show gr ≠ W.heap.size + 1 by omega)))
      obtain ⟨⟨s1, s2⟩, s3, s4, s5⟩ := rst_bd hFn hne hE (k - from') (by omega)
      obtain ⟨t1, t2, t3⟩ := lea_le hlt hFn (hne (by omega)) hE
      have HR1 : Hid (rst n cl F from' (k + 1 - from') = ((rst n cl F from' (k - from')).1 + lea (cl[k]?.getD []) F, abv (cl[k]?.getD []) (lea (cl[k]?.getD []) F) F (rst n cl F from' (k - from')).2)) := Lib.hid (by
        rw [show k + 1 - from' = (k - from') + 1 by omega]
        show ((rst n cl F from' (k - from')).1 + lea (cl[from' + (k - from')]?.getD []) F, abv (cl[from' + (k - from')]?.getD []) (lea (cl[from' + (k - from')]?.getD []) F) F (rst n cl F from' (k - from')).2) = _
        rw [show from' + (k - from') = k by omega])
      generalize (rst n cl F from' (k - from')).1 = sm at *
      generalize (rst n cl F from' (k - from')).2 = al at *
      generalize hle : lea (cl[k]?.getD []) F = le at *
      have kn : ((k - from' : Nat) : Int) ≤ 24 := by omega
      have wr1 : IntKind.i64.wrap (sm + le) = sm + le := by rw [IntKind.wrap_i64]; omega
      have d7 := r1.sum.cell
      have f7 := r1.sum.frozen
      have d11 := hb1.cell
      clear hX x10 x11 mX iX hg1 hys hv hD hK d0 d1
      gi_upto_region 11 with fail
      have g2 := grownBy_setCell' W' (w.heap.size + 1) (.int .i64 (sm + le))
      have r2 := r1.ssum g2 (r1.sum.set _)
      have m2 := Mk.gr r1.sum g2 m1
      have e10b := e10.kept g2 (ne_of (by omega))
      have e11b := hb1.kept g2 (ne_of (by omega))
      have i2 := i1.same (g2.block gr i1.lt (ne_of (show gr ≠ w.heap.size + 1 by omega)))
      clear r1 m1 e10 hb1 i1 d7 f7 d11 g2
      generalize (W'.setCell ⟨w.heap.size + 1, 0, none⟩ (.int .i64 (sm + le))) = W2 at *
      have kb := (two_row r2.set)
      have c5 := kb.1
      have c5' := kb.2.1
      clear kb
      gi_wp2_with (refine ⟨trivial, ?_⟩; gi_at_call 82; refine (callsIn_wide.2 (st.all_any x y _)).mono ?_; rintro e w5 ⟨rfl, rfl⟩)
      have bX2 : Below W2.heap.size W2 (W2.alloc (.cells #[.int .u64 x, .int .u64 y] 55)) := bl_al (Below.refl _ W2) _
      have rX := r2.up bX2
      have mX := m2.up bX2
      have x10 := e10b.alloc (.cells #[.int .u64 x, .int .u64 y] 55)
      have x11 := e11b.alloc (.cells #[.int .u64 x, .int .u64 y] 55)
      have iX := i2.keep bX2
      have qX := two_row (heap_alloc_new W2 (.cells #[.int .u64 x, .int .u64 y] 55))
      have d0 := qX.1
      have d1 := qX.2.1
      have lX2 := qX.2.2.2
      clear c5 c5' r2 m2 e10b e11b i2 qX bX2
      generalize (W2.alloc (.cells #[.int .u64 x, .int .u64 y] 55)) = X2 at *
      refine wpIn_rangeFunc_ownG rfl (by omega) (gf := 93) (lb := #[.pointer (some ⟨W2.heap.size, 0, none⟩)]) rfl trivial (enters_of Tryd.func93 (by kernel_rfl) rfl)
        (st.all_stopsM (8 - 1) (by omega) W2.heap.size w.heap.size x y hx hy X2 hsz lX2 rX.bel.size (hT.keep rX.bel) d0 d1) belowK_t (belowK_b (by have := rX.bel.size; omega)) (Below.refl _ _) (fun _ => rfl)
        (fun (pre : List (st.Nm x y)) W' => Blk W' ga (abv (cl[k]?.getD []) le (vals pre) al) ∧ X2.grownBy W' (some ga))
        (fun _ _ _ => False)
        (OwnFrom.and (Own.from (blk_own ga (fun pre : List (st.Nm x y) => abv (cl[k]?.getD []) le (vals pre) al)) _) (ownFrom_but (Nat.le_refl _)))
        (fun _ _ _ _ _ hs _ _ => hs)
        ⟨by unfold vals; exact rX.ab, World.grownBy.refl X2 _⟩
        (fun v => { tmps := #[.pointer (some ⟨b, 0, none⟩), .int .i64 (from' : Int), .agg #[.int .u64 x, .int .u64 y], undef, undef, .pointer (some ⟨w.heap.size, 0, none⟩), .int .i64 0, .pointer (some ⟨w.heap.size + 1, 0, none⟩), .pointer (some ⟨b8, 0, none⟩), .int .i64 (k : Int), .pointer (some ⟨W.heap.size, 0, none⟩), .pointer (some ⟨W.heap.size + 1, 0, none⟩), undef, .int .i64 v.1, undef, .slice (some ⟨w.heap.size + 1 + 1, 0, none⟩) 1 1, .pointer (some ⟨b, 0, none⟩), .int .i64 (n : Int), .slice (some ⟨ga, 0, none⟩) n n, .int .i64 (from' : Int), .int .i64 (k : Int), .pointer (some ⟨b, 0, none⟩), .int .i64 (n : Int), .bool true, u24, u25, .pointer (some ⟨b, 0, none⟩), .pointer (some ⟨b, 0, none⟩), .pointer (some ⟨b, 0, none⟩), .slice (some ⟨gt, 0, none⟩) n kc, .int .i64 (k : Int), .pointer (some ⟨gt, k, none⟩), .slice (some ⟨gr, 0, none⟩) n cr, .agg #[.int .u64 x, .int .u64 y], .func (.func 93) #[] #[.pointer (some ⟨W.heap.size + 1 + 1, 0, none⟩)], undef, undef, undef, undef, undef, undef, undef, .int .i64 sm, .int .i64 le, .int .i64 (sm + le), .agg #[.int .u64 x, .int .u64 y], .func (.func 93) #[] #[.pointer (some ⟨W2.heap.size, 0, none⟩)], .int .i64 v.1, undef, undef, undef, undef, undef, undef, undef, undef, undef, undef, undef, undef, undef, undef, undef, undef, undef, undef, undef, undef, undef, undef, undef, undef], defers := [] }) ?assign2 ?body2 ?done2 ?stop2
      case assign2 =>
        intro l v W' K hK
        gi_wp2
        exact hK
      case stop2 =>
        rintro D c pre W' _ _ h _
        exact h.elim
      case body2 =>
        rintro l pre z W'' ⟨hb1, hg1⟩ hlt1
        have hz := hFn z.1 (by rw [← hF]; exact z.2)
        have hzF : z.1 ∈ F := by rw [← hF]; exact z.2
        obtain ⟨zn, hzn⟩ : ∃ zn : Nat, z.1 = (zn : Int) := ⟨z.1.toNat, by omega⟩
        have z0 : (0 : Int) ≤ (zn : Int) := by omega
        have z1 : (zn : Int) < (n : Int) := by omega
        have e10 := x10.kept hg1 (ne_of (by omega))
        have d10 := e10.cell
        have e11 := x11.kept hg1 (ne_of (by omega))
        have d11 := e11.cell
        have e8 := rX.abx.kept hg1 (ne_of (by omega))
        have d8 := e8.cell
        have ca := hb1.cell zn (by rw [abv_len, s3]; omega)
        have fa := hb1.frozen zn
        have cz : W''.cell? ⟨gr, zn, none⟩ = some (.int .i64 (od.nth (cl[k]?.getD []) zn)) := by
          have ix := iX.same (hg1.block gr iX.lt (ne_of (show gr ≠ ga by omega)))
          obtain ⟨bb, oo, ee, _, mm⟩ := ix.ints zn (by rw [hil]; omega)
          injection ee with ee
          injection ee with e1 e2
          subst e1 e2
          rw [Nat.zero_add] at mm
          rw [mm]
          unfold od.nth
          rfl
        have hE' := hE k zn hlt (by omega)
        have t3' := t3 z.1 hzF
        rw [hzn, Int.toNat_natCast] at t3'
        have wr2 : IntKind.i64.wrap (od.nth (cl[k]?.getD []) zn - le) = od.nth (cl[k]?.getD []) zn - le := by rw [IntKind.wrap_i64]; omega
        have ST := fun v => one_step hg1 X2.heap.size w.heap.size (by omega) zn v
        have HV : Hid (∀ v : Int, v = min (od.nth (abv (cl[k]?.getD []) le (vals pre) al) zn) (od.nth (cl[k]?.getD []) zn - le) → KeepsFrom X2.heap.size W'' (W''.setCell ⟨ga, zn, none⟩ (.int .i64 v)).drew ∧ Below w.heap.size W'' (W''.setCell ⟨ga, zn, none⟩ (.int .i64 v)).drew ∧ (Blk (W''.setCell ⟨ga, zn, none⟩ (.int .i64 v)).drew ga (abv (cl[k]?.getD []) le (vals (pre ++ [z])) al) ∧ X2.grownBy (W''.setCell ⟨ga, zn, none⟩ (.int .i64 v)).drew (some ga))) := Lib.hid fun v hv => by
          obtain ⟨s1, s2, s3⟩ := ST (.int .i64 v)
          refine ⟨s1, s2, ?_, s3⟩
          rw [vals_snoc, abv_snoc, hzn, Int.toNat_natCast, ← hv]
          exact hb1.set _ _
        clear ST
        rw [hzn]
        have hmx : Tryd.prog.follows .mixedOrders = true := by kernel_rfl
        generalize od.nth (abv (cl[k]?.getD []) le (vals pre) al) zn = av at *
        generalize od.nth (cl[k]?.getD []) zn = rv at *
        gi_wp2
        gi_still_tail 13, hmx
        repeat still_step
        refine wpStill_nil ?_
        go_wp2
        all_goals gi_wp2
        all_goals exact HV.out _ (by omega)
      case done2 =>
        rintro D2 ys W'' hD hys ⟨hb1, hg1⟩ hK
        have hv : vals ys = F := by unfold vals; rw [← hF]; exact hys
        rw [hv] at hb1
        have r1 := rX.sab hg1 hb1
        have m1 := mX.push (Mk.gr rX.ab hg1 mX) hD (by have := rX.bel.size; omega) hK
        have h1 := congrArg Prod.fst HR1.out
        have h2 := congrArg Prod.snd HR1.out
        dsimp only at h1 h2
        rw [← h1, ← h2] at r1
        have wk : IntKind.i64.wrap ((k : Int) + 1) = (k : Int) + 1 := by rw [IntKind.wrap_i64]; omega
        gi_wp2
        have ek : (k : Int) + 1 = ((k + 1 : Nat) : Int) := by omega
        have hdec : n - (((k + 1 : Nat) : Int)).toNat < n - ((k : Int)).toNat := by omega
        rw [ek]
        exact ⟨⟨k + 1, _, _, _, _, _, _, _, _, _, _, _, _, _, _, _, _, _, _, _, _, _, _, _, rfl, by omega, by omega, m1, r1⟩, hdec⟩
  · have ek : n = k := by omega
    subst ek
    have pn : ¬ ((n : Int) < (n : Int)) := by omega
    have h8 := hr.abx.lt
    have hga := lt_hp hr.ab
    have hlt2 := hr.lt
    have hw0 := lt_hp hr.set
    have kb := (two_row hr.set)
    have c5 := kb.1
    have c5' := kb.2.1
    clear kb
    gi_wp2_with fail
    refine ⟨trivial, ?_⟩
    refine (callsIn_wide.2 (HD.out W hbW)).mono ?_
    rintro e w3 ⟨rfl, rfl⟩
    gi_wp2_with (refine ⟨trivial, ?_⟩; gi_at_call 82; refine (callsIn_wide.2 (st.all_any x y _)).mono ?_; rintro e w4 ⟨rfl, rfl⟩)
    have bX : Below W.heap.size W (W.alloc (.cells #[.int .u64 x, .int .u64 y] 55)) := bl_al (Below.refl _ W) _
    have rX := hr.up bX
    have mX := hm.up bX
    have qX := two_row (heap_alloc_new W (.cells #[.int .u64 x, .int .u64 y] 55))
    have d0 := qX.1
    have d1 := qX.2.1
    have lX := qX.2.2.2
    clear c5 c5' hr hm qX
    generalize (W.alloc (.cells #[.int .u64 x, .int .u64 y] 55)) = X at *
    obtain ⟨⟨s1, s2⟩, s3, s4, s5⟩ := rst_bd hFn hne hE (n - from') (by omega)
    obtain ⟨rv, hrv⟩ : ∃ rv, rv = smv (rst n cl F from' (n - from')).2 F (rst n cl F from' (n - from')).1 := ⟨_, rfl⟩
    have HRV : Hid (restR n cl F from' = rv) := Lib.hid (by unfold restR; exact hrv.symm)
    have hrv := Lib.hid hrv
    generalize (rst n cl F from' (n - from')).1 = sm at *
    generalize (rst n cl F from' (n - from')).2 = al at *
    have kn : ((n - from' : Nat) : Int) ≤ 24 := by omega
    have hal : ∀ c ∈ F, 0 ≤ od.nth al c.toNat ∧ od.nth al c.toNat ≤ 2147483647 := fun c hc => by
      have q1 := hFn c hc
      have q2 := s4 c.toNat (by omega)
      exact ⟨q2.1, s5 (by cases F with
        | nil => simp at hc
        | cons a r => rw [List.length_cons] at hFl; omega) c hc⟩
    refine wpIn_rangeFunc_ownG rfl (by omega) (gf := 93) (lb := #[.pointer (some ⟨W.heap.size, 0, none⟩)]) rfl trivial (enters_of Tryd.func93 (by kernel_rfl) rfl)
      (st.all_stopsM (8 - 1) (by omega) (W.heap.size) w.heap.size x y hx hy X hsz lX rX.bel.size (hT.keep rX.bel) d0 d1) belowK_t (belowK_b (by have := rX.bel.size; omega)) (Below.refl _ _) (fun _ => rfl)
      (fun (pre : List (st.Nm x y)) W' => Boxed W' (w.heap.size + 1) 3 (.int .i64 (smv al (vals pre) sm)) ∧ X.grownBy W' (some (w.heap.size + 1)))
      (fun _ _ _ => False)
      (OwnFrom.and (Own.from (boxed_own (w.heap.size + 1) 3 (fun pre : List (st.Nm x y) => Value.int .i64 (smv al (vals pre) sm))) _) (ownFrom_but (Nat.le_refl _)))
      (fun _ _ _ _ _ hs _ _ => hs)
      ⟨by unfold vals; exact rX.sum, World.grownBy.refl X _⟩
      (fun v => { tmps := #[.pointer (some ⟨b, 0, none⟩), .int .i64 (from' : Int), .agg #[.int .u64 x, .int .u64 y], undef, undef, .pointer (some ⟨w.heap.size, 0, none⟩), .int .i64 0, .pointer (some ⟨w.heap.size + 1, 0, none⟩), .pointer (some ⟨b8, 0, none⟩), .int .i64 (n : Int), u10, u11, undef, undef, .int .i64 v.1, .slice (some ⟨w.heap.size + 1 + 1, 0, none⟩) 1 1, .pointer (some ⟨b, 0, none⟩), .int .i64 (n : Int), .slice (some ⟨ga, 0, none⟩) n n, .int .i64 (from' : Int), .int .i64 (n : Int), .pointer (some ⟨b, 0, none⟩), .int .i64 (n : Int), .bool false, u24, u25, u26, u27, u28, u29, u30, u31, u32, u33, u34, undef, undef, undef, undef, undef, undef, undef, u42, u43, u44, u45, u46, undef, undef, undef, undef, undef, undef, undef, undef, undef, undef, undef, undef, undef, undef, undef, .agg #[.int .u64 x, .int .u64 y], .func (.func 93) #[] #[.pointer (some ⟨W.heap.size, 0, none⟩)], .int .i64 v.1, undef, undef, undef, undef, undef, undef, undef], defers := [] }) ?assign3 ?body3 ?done3 ?stop3
    case assign3 =>
      intro l v W' K hK
      gi_wp2
      exact hK
    case stop3 =>
      rintro D c pre W' _ _ h _
      exact h.elim
    case body3 =>
      rintro l pre z W'' ⟨hb1, hg1⟩ hlt1
      have hz := hFn z.1 (by rw [← hF]; exact z.2)
      have hzF : z.1 ∈ F := by rw [← hF]; exact z.2
      have ha := hal z.1 hzF
      have hsb := smv_bd al (vals pre) sm (fun c hc => hal c (by rw [← hF]; exact vals_mem hc))
      have hpl : (vals pre).length < F.length := by rw [← hF]; unfold vals; simpa using hlt1
      obtain ⟨zn, hzn⟩ : ∃ zn : Nat, z.1 = (zn : Int) := ⟨z.1.toNat, by omega⟩
      have z0 : (0 : Int) ≤ (zn : Int) := by omega
      have z1 : (zn : Int) < (n : Int) := by omega
      have d7 := hb1.cell
      have f7 := hb1.frozen
      have e8 := rX.abx.kept hg1 (ne_of (by omega))
      have d8 := e8.cell
      have ea := rX.ab.kept hg1 (ne_of (by omega))
      have ca := ea.cell zn (by omega)
      have wr2 : IntKind.i64.wrap (smv al (vals pre) sm + od.nth al zn) = smv al (vals pre) sm + od.nth al zn := by
        rw [hzn, Int.toNat_natCast] at ha
        have : ((vals pre).length : Int) ≤ 24 := by omega
        rw [IntKind.wrap_i64]; omega
      have ST := fun v => one_step hg1 X.heap.size w.heap.size (by omega) 0 v
      have HV : Hid (∀ v : Int, v = smv al (vals pre) sm + od.nth al zn → KeepsFrom X.heap.size W'' (W''.setCell ⟨w.heap.size + 1, 0, none⟩ (.int .i64 v)).drew ∧ Below w.heap.size W'' (W''.setCell ⟨w.heap.size + 1, 0, none⟩ (.int .i64 v)).drew ∧ (Boxed (W''.setCell ⟨w.heap.size + 1, 0, none⟩ (.int .i64 v)).drew (w.heap.size + 1) 3 (.int .i64 (smv al (vals (pre ++ [z])) sm)) ∧ X.grownBy (W''.setCell ⟨w.heap.size + 1, 0, none⟩ (.int .i64 v)).drew (some (w.heap.size + 1)))) := Lib.hid fun v hv => by
        obtain ⟨s1, s2, s3⟩ := ST (.int .i64 v)
        refine ⟨s1, s2, ?_, s3⟩
        rw [vals_snoc, smv_snoc, hzn, Int.toNat_natCast, ← hv]
        exact hb1.set _
      clear ST
      rw [hzn]
      have hmx : Tryd.prog.follows .mixedOrders = true := by kernel_rfl
      generalize smv al (vals pre) sm = sv at *
      generalize od.nth al zn = av at *
      gi_wp2
      gi_still_tail 6, hmx
      repeat still_step
      refine wpStill_nil ?_
      go_wp2
      all_goals gi_wp2
      all_goals exact HV.out _ (by omega)
    case done3 =>
      rintro D3 ys W'' hD hys ⟨hb1, hg1⟩ hK
      have hv : vals ys = F := by unfold vals; rw [← hF]; exact hys
      rw [hv, ← hrv.out] at hb1
      have lb := hbW.size
      have m1 := mX.push (Mk.gr rX.sum hg1 mX) hD (by have := rX.bel.size; omega) hK
      have bW := rX.bel.trans (below_but hg1 (by omega) rX.bel.size)
      have d7 := hb1.cell
      have f7 := hb1.frozen
      gi_wp2
      refine Mk.unwind _ _ m1 (fun W4 hb4 => ?_)
      exact ⟨_, results_tmp rfl _ _ _, by rw [HRV.out]; first | rfl | (rw [hrv.out]; rfl), bW.trans hb4⟩
end Go.Proofs.YtlhpiikpmmlpeaaDoor

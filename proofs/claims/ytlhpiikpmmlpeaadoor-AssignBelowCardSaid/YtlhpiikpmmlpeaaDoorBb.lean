/-
  assign: the reference's free.
-/
import Derived.Test.YtlhpiikpmmlpeaaDoorAi
import Derived.Test.YtlhpiikpmmlpeaaDoorKb
import Derived.Deep.DeepCutAuto
import Derived.Lib.SmallJoins
namespace Go.Proofs.YtlhpiikpmmlpeaaDoor.kn
open Go.RowKit
set_option linter.unusedVariables false
set_option linter.unusedSimpArgs false
/-- the reference's free's variables in memory: the problem's box, which are used -/
structure RW (w : World) (cs : Array Value) (f : Nat → Bool) (W : World) : Prop where
  box : W.heap[w.heap.size]? = some (.cells cs 25 (0, 0))
  blk : ∃ C : Array Value, W.heap[w.heap.size + 1]? = some (.cells C 84 (0, 0)) ∧ C.size = 24 ∧ ∀ v, v < 24 → C[v]? = some (.bool (f v))
  bel : Below w.heap.size w W
theorem RW.cell {w W : World} {cs : Array Value} {f : Nat → Bool} (h : RW w cs f W) (v : Nat) (hv : v < 24) : W.cell? ⟨w.heap.size + 1, v, none⟩ = some (.bool (f v)) := by
  obtain ⟨C, h1, h2, h3⟩ := h.blk
  rw [cell_of_row _ _ _ _ _ _ h1, h3 v hv]
theorem RW.froz {w W : World} {cs : Array Value} {f : Nat → Bool} (h : RW w cs f W) (v : Nat) : W.frozen? ⟨w.heap.size + 1, v, none⟩ = false := by
  obtain ⟨C, h1, h2, h3⟩ := h.blk
  exact frozen_of_row _ _ _ _ _ h1
theorem RW.set {w W : World} {cs : Array Value} {f f' : Nat → Bool} (h : RW w cs f W) (v : Nat) (hf : ∀ u, f' u = if u = v then true else f u) : RW w cs f' (W.setCell ⟨w.heap.size + 1, v, none⟩ (.bool true)) := by
  obtain ⟨C, h1, h2, h3⟩ := h.blk
  refine ⟨(heap_setCell_other W ⟨w.heap.size + 1, v, none⟩ w.heap.size _ (by show w.heap.size ≠ w.heap.size + 1; omega)).trans h.box, ⟨C.setIfInBounds v (.bool true), heap_setCell_same W _ v C 84 _ h1, by simpa using h2, fun u hu => ?_⟩, h.bel.setCell (p := ⟨w.heap.size + 1, v, none⟩) (by show w.heap.size ≤ w.heap.size + 1; omega) _⟩
  rw [hf u, Array.getElem?_setIfInBounds, h3 u hu]
  by_cases h4 : v = u
  · subst h4; simp; omega
  · rw [if_neg h4, if_neg (fun h => h4 h.symm)]
theorem RW.tw {w W W1 : World} {cs : Array Value} {f : Nat → Bool} {S : List Nat} (h : RW w cs f W) (k : Tw S W W1) (hS : ∀ i, i ∈ S → w.heap.size + 2 ≤ i) : RW w cs f W1 := by
  obtain ⟨C, h1, h2, h3⟩ := h.blk
  exact ⟨blk_tw h.box k (fun q => by have := hS _ q; omega), ⟨C, blk_tw h1 k (fun q => by have := hS _ q; omega), h2, h3⟩, k.below h.bel (fun i hi => by have := hS i hi; omega) h.bel.size⟩
theorem RW.dn {w W : World} {cs : Array Value} {f : Nat → Bool} (h : RW w cs f W) (n : Nat) : RW w cs f (W.drewN n) := ⟨h.box, h.blk, h.bel.trans (bl_dn (Below.refl _ W) n)⟩
/-- what is left, up to c -/
def rl (n : Nat) (p : List Int) (c : Nat) : List Int := (st.lst (fre n p) 0 c).map (fun (i : Nat) => (i : Int))
theorem rl_zero (n : Nat) (p : List Int) : rl n p 0 = [] := by unfold rl; simp [st.lst]
theorem rl_len (n : Nat) (p : List Int) (c : Nat) : (rl n p c).length ≤ c := by unfold rl; rw [List.length_map]; exact st.lst_len _ _ _
theorem rl_yes {n : Nat} {p : List Int} {c : Nat} (hc : c < n) (h : inP p c = false) : rl n p (c + 1) = rl n p c ++ [(c : Int)] := by
  unfold rl
  rw [st.lst_app, Nat.zero_add, st.lst_yes (by simp [fre, h, hc]), List.map_append]
  simp [st.lst]
theorem rl_no {n : Nat} {p : List Int} {c : Nat} (h : inP p c = true) : rl n p (c + 1) = rl n p c := by
  unfold rl
  rw [st.lst_app, Nat.zero_add, st.lst_no (by simp [fre, h]), List.map_append]
  simp [st.lst]
theorem rl_all {n : Nat} (hn : n ≤ 128) (p : List Int) : rl n p n = frl n p := by
  unfold rl frl st.nums
  have := st.lst_app (fre n p) n (128 - n) 0
  rw [show n + (128 - n) = 128 by omega, Nat.zero_add, st.lst_none (128 - n) n (fun i h1 h2 => by simp [fre]; omega), List.append_nil] at this
  rw [this]
attribute [irreducible] rl
/-- a beginning's beginning -/
theorem take_next (p : List Int) (k : Nat) (hk : k < p.length) : p.take (k + 1) = p.take k ++ [p[k]?.getD 0] := by
  rw [List.take_succ_eq_append_getElem hk, List.getElem?_eq_getElem hk]
  rfl
theorem inP_next (p : List Int) (k : Nat) (hk : k < p.length) (vn : Nat) (hv : p[k]?.getD 0 = (vn : Int)) (u : Nat) : inP (p.take (k + 1)) u = if u = vn then true else inP (p.take k) u := by
  rw [take_next p k hk, hv]
  unfold inP
  by_cases h : u = vn
  · subst h; simp
  · rw [if_neg h]
    have : ¬ (u : Int) = (vn : Int) := by omega
    simp [this]
theorem get_mem (p : List Int) (k : Nat) (hk : k < p.length) : p[k]?.getD 0 ∈ p := by
  rw [List.getElem?_eq_getElem hk]
  exact List.getElem_mem hk
theorem pre_next {n : Nat} {p : List Int} {k : Nat} (hk : k < p.length) (h : Pre n (p.take k)) {vn : Nat} (hv : p[k]?.getD 0 = (vn : Int)) (hn : vn < n) (hf : inP (p.take k) vn = false) : Pre n (p.take (k + 1)) := by
  rw [take_next p k hk, hv]
  refine ⟨?_, fun v hm => ?_⟩
  · rw [List.nodup_append]
    refine ⟨h.1, by simp, fun a ha c hc e => ?_⟩
    rw [List.mem_singleton] at hc
    subst hc e
    simp [inP] at hf
    exact hf ha
  · rcases List.mem_append.1 hm with q | q
    · exact h.2 v q
    · rw [List.mem_singleton] at q; omega
theorem pre_not {n : Nat} {p : List Int} {k : Nat} (hk : k < p.length) {vn : Nat} (hv : p[k]?.getD 0 = (vn : Int)) (hf : inP (p.take k) vn = true) : ¬ Pre n p := fun h => by
  have hs := (List.take_sublist (k + 1) p).nodup h.1
  rw [take_next p k hk, hv, List.nodup_append] at hs
  simp [inP] at hf
  exact hs.2.2 _ hf _ (by simp) rfl
/-- what the reference's free leaves -/
def RfP (n : Nat) (p : List Int) (w : World) (e : Ending) (w' : World) : Prop :=
  (¬ Pre n p ∧ e = .returned (.tuple #[.slice none 0 0, .bool false]) ∧ Below w.heap.size w w') ∨
  (Pre n p ∧ ∃ a cap, e = .returned (.tuple #[.slice a (frl n p).length cap, .bool true]) ∧ Ol (w.heap.size + 2) (.slice a (frl n p).length cap) (frl n p) w' ∧ Below w.heap.size w w')
set_option maxRecDepth 100000 in
set_option maxHeartbeats 8000000 in
theorem rfree_any (K C : Int) (n : Nat) (hn : n ≤ 24) (p : List Int) (hp : p.length ≤ 1000) (pa : Option Addr) (pc : Nat) (va vb' vc : Value) (w : World) (hI : Ints w pa p) :
    Calls Tryd.prog 57 #[.agg #[.int .i64 K, .int .i64 n, .int .i64 C, va, vb', vc], .slice pa p.length pc] w (RfP n p w) := by
  have HNo : Hid (∀ w', ¬ Pre n p → Below w.heap.size w w' → RfP n p w (.returned (.tuple #[.slice none 0 0, .bool false])) w') := Lib.hid fun w' a b => .inl ⟨a, rfl, b⟩
  have HYes : Hid (∀ w' a cap, Pre n p → Ol (w.heap.size + 2) (.slice a (frl n p).length cap) (frl n p) w' → Below w.heap.size w w' → RfP n p w (.returned (.tuple #[.slice a (frl n p).length cap, .bool true])) w') := Lib.hid fun w' a cap h1 h2 h3 => .inr ⟨h1, a, cap, rfl, h2, h3⟩
  have bB : Below w.heap.size w (w.alloc (.cells #[.int .i64 K, .int .i64 n, .int .i64 C, va, vb', vc] 25)) := bl_al (Below.refl _ _) _
  have q0 := heap_alloc_new w (.cells #[.int .i64 K, .int .i64 n, .int .i64 C, va, vb', vc] 25)
  by_cases hl : n < p.length
  · have hno := HNo.out (w.alloc (.cells #[.int .i64 K, .int .i64 n, .int .i64 C, va, vb', vc] 25)) (fun h => by have := pre_len h; omega) bB
    have HE := Lib.hid hno
    obtain ⟨c0, c1, c2, c3, c4, c5⟩ := box6 q0
    have p1 : (n : Int) < (p.length : Int) := by omega
    clear hno HNo HYes hI
    generalize RfP n p w = G at *
    generalize p.length = l at *
    go_enter Tryd.func57, Tryd.ntmps57
    go_wp2
    first
      | exact HE.out
      | (go_ret; exact HE.out)
  · have HI : Hid (∀ (f : Nat → Bool) (W : World), RW w #[.int .i64 K, .int .i64 n, .int .i64 C, va, vb', vc] f W → ∀ k, k < p.length → ∃ bp op, pa = some ⟨bp, op, none⟩ ∧ W.cell? ⟨bp, op + k, none⟩ = some (.int .i64 (p[k]?.getD 0))) := Lib.hid fun f W h k hk => by
      obtain ⟨bp, op, e1, l1, m1⟩ := hI k hk
      exact ⟨bp, op, e1, (h.bel.cell (p := ⟨bp, op + k, none⟩) l1).trans m1⟩
    have HB6 := Lib.hid (fun (f : Nat → Bool) (W : World) (h : RW w #[.int .i64 K, .int .i64 n, .int .i64 C, va, vb', vc] f W) => box6 h.box)
    have T0 : Hid (Pre n (p.take 0)) := Lib.hid ⟨by simp, fun v hv => by simp at hv⟩
    have HX : Hid (∀ k, k < p.length → Pre n (p.take k) → ∀ vn : Nat, p[k]?.getD 0 = (vn : Int) → (vn < n → inP (p.take k) vn = false → Pre n (p.take (k + 1))) ∧ (inP (p.take k) vn = true → ¬ Pre n p)) := Lib.hid fun k hk h vn hv => ⟨fun a b => pre_next hk h hv a b, fun a => pre_not hk hv a⟩
    have HIn := Lib.hid (fun k (hk : k < p.length) vn hv => inP_next p k hk vn hv)
    have HM : Hid (∀ k, k < p.length → ¬ (0 ≤ p[k]?.getD 0 ∧ p[k]?.getD 0 < n) → ¬ Pre n p) := Lib.hid fun k hk h q => h (q.2 _ (get_mem p k hk))
    have HT : Hid (p.take p.length = p) := Lib.hid (List.take_length)
    have HR0 : Hid (RW w #[.int .i64 K, .int .i64 n, .int .i64 C, va, vb', vc] (inP (p.take 0)) ((w.alloc (.cells #[.int .i64 K, .int .i64 n, .int .i64 C, va, vb', vc] 25)).alloc (.cells #[.bool false, .bool false, .bool false, .bool false, .bool false, .bool false, .bool false, .bool false, .bool false, .bool false, .bool false, .bool false, .bool false, .bool false, .bool false, .bool false, .bool false, .bool false, .bool false, .bool false, .bool false, .bool false, .bool false, .bool false] 84))) := Lib.hid (by
      have b2 := bl_al bB (.cells #[.bool false, .bool false, .bool false, .bool false, .bool false, .bool false, .bool false, .bool false, .bool false, .bool false, .bool false, .bool false, .bool false, .bool false, .bool false, .bool false, .bool false, .bool false, .bool false, .bool false, .bool false, .bool false, .bool false, .bool false] 84)
      have q1 := heap_alloc_new (w.alloc (.cells #[.int .i64 K, .int .i64 n, .int .i64 C, va, vb', vc] 25)) (.cells #[.bool false, .bool false, .bool false, .bool false, .bool false, .bool false, .bool false, .bool false, .bool false, .bool false, .bool false, .bool false, .bool false, .bool false, .bool false, .bool false, .bool false, .bool false, .bool false, .bool false, .bool false, .bool false, .bool false, .bool false] 84)
      rw [World.size_alloc] at q1
      refine ⟨(heap_alloc_old _ _ (lt_hp q0)).trans q0, ⟨_, q1, rfl, fun v hv => ?_⟩, b2⟩
      have e : (#[.bool false, .bool false, .bool false, .bool false, .bool false, .bool false, .bool false, .bool false, .bool false, .bool false, .bool false, .bool false, .bool false, .bool false, .bool false, .bool false, .bool false, .bool false, .bool false, .bool false, .bool false, .bool false, .bool false, .bool false] : Array Value) = Array.replicate 24 (.bool false) := rfl
      rw [e, Array.getElem?_replicate, if_pos hv]
      simp [inP])
    have HFl : Hid (rl n p n = frl n p) := Lib.hid (rl_all (by omega) p)
    have HRl := Lib.hid (rl_len n p)
    have HRy := Lib.hid (fun c (hc : c < n) => rl_yes (n := n) (p := p) hc)
    have HRn := Lib.hid (fun c => rl_no (n := n) (p := p) (c := c))
    have HR00 := Lib.hid (rl_zero n p)
    obtain ⟨c0, c1, c2, c3, c4, c5⟩ := box6 q0
    obtain ⟨l, hl2⟩ : ∃ l, l = p.length := ⟨_, rfl⟩
    rw [← hl2] at hl HI HX HIn HM HT ⊢
    have p1 : ¬ (n : Int) < (l : Int) := by omega
    clear q0 bB hI hl2 hp
    generalize RfP n p w = G at *
    go_enter Tryd.func57, Tryd.ntmps57
    go_wp2
    clear c0 c1 c2 c3 c4 c5
    generalize ((w.alloc (.cells #[.int .i64 K, .int .i64 n, .int .i64 C, va, vb', vc] 25)).alloc (.cells #[.bool false, .bool false, .bool false, .bool false, .bool false, .bool false, .bool false, .bool false, .bool false, .bool false, .bool false, .bool false, .bool false, .bool false, .bool false, .bool false, .bool false, .bool false, .bool false, .bool false, .bool false, .bool false, .bool false, .bool false] 84)) = W0 at *
    go_loopw [7] (fun i wr => ∃ k : Nat, k ≤ l ∧ i = .int .i64 k ∧ Hid (Pre n (p.take k)) ∧ Hid (RW w #[.int .i64 K, .int .i64 n, .int .i64 C, va, vb', vc] (inP (p.take k)) wr)) (fun i _ => l - (intOf i).toNat)
    case atStart => exact ⟨0, by omega, rfl, T0, HR0⟩
    case round =>
      clear HR0 T0
      obtain ⟨k, hk, rfl, HP, HR⟩ := hrel
      by_cases hlt : k < l
      · obtain ⟨bp, op, rfl, m1⟩ := HI.out _ wr HR.out k hlt
        obtain ⟨c0, c1, c2, c3, c4, c5⟩ := HB6.out _ wr HR.out
        have hm := HM.out k hlt
        have hx := HX.out k hlt HP.out
        have hin := HIn.out k hlt
        generalize hv : p[k]?.getD 0 = v at *
        have HV := Lib.hid hv
        clear hv
        have k1 : (k : Int) < (l : Int) := by omega
        have k0 : (0 : Int) ≤ (k : Int) := by omega
        by_cases v0 : v < 0
        · have HE := Lib.hid (fun m => HNo.out (wr.drewN m) (hm (by omega)) (HR.out.dn m).bel)
          have d0 := decide_eq_true v0
          clear hm hx hin
          go_wp2
          go_quiet (fail)
          go_wp2
          exact HE.out _
        · have d0 := decide_eq_false v0
          by_cases v1 : (n : Int) ≤ v
          · have HE := Lib.hid (fun m => HNo.out (wr.drewN m) (hm (by omega)) (HR.out.dn m).bel)
            have d1 := decide_eq_true v1
            clear hm hx hin
            go_wp2
            go_quiet (fail)
            go_wp2
            exact HE.out _
          · have d1 := decide_eq_false v1
            obtain ⟨vn, hvn⟩ : ∃ vn : Nat, v = (vn : Int) := ⟨v.toNat, by omega⟩
            have x2 := HR.out.cell vn (by omega)
            have hxx := hx vn hvn
            have hii := hin vn hvn
            subst hvn
            have q0 : (0 : Int) ≤ (vn : Int) := by omega
            have q1 : (vn : Int) < 24 := by omega
            have q2 : vn < n := by omega
            have d3 := decide_eq_false (show ¬ n ≤ vn by omega)
            by_cases hu : inP (p.take k) vn = true
            · rw [hu] at x2
              have HE := Lib.hid (fun m => HNo.out (wr.drewN m) (hxx.2 hu) (HR.out.dn m).bel)
              clear hm hx hin hxx hii
              go_wp2
              go_quiet (fail)
              go_wp2
              exact HE.out _
            · have hu : inP (p.take k) vn = false := by simpa using hu
              rw [hu] at x2
              have HN := Lib.hid (hxx.1 (by omega) hu)
              have HS := Lib.hid (fun m => (HR.out.dn m).set vn hii)
              have FR := Lib.hid (fun m => And.intro ((HR.out.dn m).froz vn) (And.intro ((HR.out.dn m).cell vn (by omega)) (HI.out _ _ (HR.out.dn m) k hlt)))
              clear hm hx hin hxx hii hu
              go_wp2
              go_quiet (fail)
              rename_i nq
              obtain ⟨f1, f2, bp', op', e', m1'⟩ := FR.out nq
              injection e' with e'
              injection e' with e1 e2
              subst e1 e2
              rw [HV.out] at m1'
              go_wp2
              go_roundw
              case rel => exact ⟨k + 1, by omega, by go_num, HN, Lib.hid (HS.out _)⟩
              case measure => simp [intOf]; omega
      · obtain rfl : l = k := by omega
        rw [HT.out] at HP HR
        clear HI HX HIn HM HNo HT
        obtain ⟨c0, c1, c2, c3, c4, c5⟩ := HB6.out _ wr HR.out
        have HO0 : Hid (Ol (w.heap.size + 2) (.slice (some ⟨wr.heap.size, 0, none⟩) 0 0) (rl n p 0) (wr.alloc (.cells #[] 3))) := Lib.hid (by
          rw [HR00.out]
          refine Ol.mono (own0 wr) ?_
          obtain ⟨C, h1, _, _⟩ := HR.out.blk
          have := lt_hp h1
          omega)
        have HR2 : Hid (RW w #[.int .i64 K, .int .i64 n, .int .i64 C, va, vb', vc] (inP p) (wr.alloc (.cells #[] 3))) := Lib.hid (HR.out.tw (Tw.al (Tw.refl [] wr) _) (fun i hi => by simp at hi))
        clear HR HR00
        go_wp2
        clear c0 c1 c2 c3 c4 c5
        generalize (wr.alloc (.cells #[] 3)) = W1 at *
        generalize hsz : wr.heap.size = g0 at *
        clear hsz
        go_loopw [8, 9] (fun s i wr => ∃ c : Nat, c ≤ n ∧ i = .int .i64 c ∧ Hid (Ol (w.heap.size + 2) s (rl n p c) wr) ∧ Hid (RW w #[.int .i64 K, .int .i64 n, .int .i64 C, va, vb', vc] (inP p) wr)) (fun _ i _ => n - (intOf i).toNat)
        case atStart => exact ⟨0, by omega, rfl, HO0, HR2⟩
        case round =>
          clear HO0 HR2
          obtain ⟨c, hc, rfl, HO, HR⟩ := hrel
          obtain ⟨a, cap, rfl⟩ := HO.out.form
          obtain ⟨c0, c1, c2, c3, c4, c5⟩ := HB6.out _ wr HR.out
          by_cases hlt : c < n
          · have x2 := HR.out.cell c (by omega)
            have r1 : (c : Int) < (n : Int) := by omega
            have r0 : (0 : Int) ≤ (c : Int) := by omega
            have r24 : (c : Int) < 24 := by omega
            have hlen := HRl.out c
            by_cases hu : inP p c = true
            · rw [hu] at x2
              have HN := Lib.hid (HRn.out c hu)
              clear hu
              go_wp2
              go_roundw
              case rel => exact ⟨c + 1, by omega, by go_num, by rw [HN.out]; exact HO, HR⟩
              case measure => simp [intOf]; omega
            · have hu : inP p c = false := by simpa using hu
              rw [hu] at x2
              have HN := Lib.hid (HRy.out c hlt hu)
              have OA := Lib.hid (HO.out.keep (Tw.al (Tw.refl [] wr) (.cells #[.int .i64 c] 3)) (fun i hi => by simp at hi))
              have RA := Lib.hid (HR.out.tw (Tw.al (Tw.refl [] wr) (.cells #[.int .i64 c] 3)) (fun i hi => by simp at hi))
              have NC := Lib.hid ((cell_of_row _ _ 0 _ 3 _ (heap_alloc_new wr (.cells #[.int .i64 c] 3))).trans (show _ = some (Value.int .i64 c) from rfl))
              have SZ := Lib.hid (show w.heap.size + 2 ≤ (wr.alloc (.cells #[.int .i64 c] 3)).heap.size from by
                obtain ⟨C, h1, _, _⟩ := RA.out.blk
                have := lt_hp h1
                omega)
              clear hu
              generalize rl n p c = L at *
              generalize hLl : L.length = ll at *
              go_wp2_with (at_builtin; (refine wpList_app1 rfl _ _ rfl rfl (w.heap.size + 2) (.slice a ll cap) L c wr.heap.size rfl rfl (by omega) OA.out SZ.out NC.out ?_))
              intro v' X' hO hT
              have HN2 : Hid (Ol (w.heap.size + 2) v' (rl n p (c + 1)) X') := Lib.hid (by rw [HN.out]; exact hO)
              have HR2 := Lib.hid (RA.out.tw hT (fun i hi => (OA.out.blk i hi).1))
              clear hO hT OA RA NC SZ
              go_wp2
              go_roundw
              case rel => exact ⟨c + 1, by omega, by go_num, HN2, HR2⟩
              case measure => simp [intOf]; omega
          · obtain rfl : n = c := by omega
            have hlen := HFl.out
            rw [HFl.out] at HO
            have HE := Lib.hid (HYes.out wr a cap HP.out HO.out HR.out.bel)
            rw [HFl.out]
            clear hlen
            go_wp2
            first
              | exact HE.out
              | (go_ret; exact HE.out)
end Go.Proofs.YtlhpiikpmmlpeaaDoor.kn

/-
  log.Join: the walk.
-/
import Derived.Test.YtgldgilhegdpjaaSoN
namespace Go.Proofs.Ytgldgilhegdpjaa.so
open Go.RowKit
set_option linter.unusedVariables false
/-- behind an append -/
def App36 (B n m : Nat) (v : Value) (xs ys : List Value) (X : World) (K : Value → World → Prop) : Prop := ∀ v' X', X'.ownsRow B 36 2 v' (n + m) (xs ++ ys) → X.grownBy X' v.ownBlock → K v' X'
theorem wpList_app36 {ops : Array Oper} {rest : List Oper} {o : Oper} {A : Act} {X : World} {Q : Exit → Act → World → Prop} (hgd : o.guard = none) (s x : Operand) (ho : o.op = .call { callee := .builtin .append, args := #[s, x], argTypes := #[30, 30] }) (hty : o.type = 30)
    (B C : Nat) (v y : Value) (n m : Nat) (xs ys : List Value) (he : A.eval s = v) (hx : A.eval x = y) (hv : X.ownsRow B 36 2 v n xs) (hy : X.ownsRow C 36 2 y m ys) (h1 : ∀ u ∈ ys, u.oneCell' = true) (hn : n + m ≤ 1000) (hB : B ≤ X.heap.size)
    (h : App36 B n m v xs ys X fun v' X' => wpList Try.prog ops Q rest (A.put o.dst v') X') : wpList Try.prog ops Q (o :: rest) A X :=
  wpList_plain hgd fun _ hK => by
    obtain ⟨v', X', hr, h2, h3⟩ := app36_run B C v y n m xs ys X hv hy h1 hn hB
    unfold Oper.wp execOp
    simp only [ho, hty, resolve, invoke, builtin, Sem.run_bind, Sem.run_pure, Result.andThen_ok, List.map_toArray, List.map_cons, List.map_nil, he, hx, hr]
    exact hK _ _ (h v' X' h2 h3)
theorem enc_one {C : Nat} {ks : List (Int × Value)} {rs : List Rec} {w : World} (h : Ps C ks rs w) : ∀ u ∈ enc ks, u.oneCell' = true := fun u hu => by
  obtain ⟨k, hk, hm⟩ := List.mem_flatMap.1 hu
  obtain ⟨j, hj⟩ := List.getElem?_of_mem hk
  have hjl : j < rs.length := by rw [← h.1]; exact (List.getElem?_eq_some_iff.1 hj).1
  obtain ⟨b, a, n, c, l, e, _⟩ := ps_at h hjl
  rw [e] at hj
  cases hj
  simp at hm
  rcases hm with rfl | rfl <;> rfl
theorem app_fr0 {B C : Nat} {T : TypeId} {k n : Nat} {v : Value} {xs : List Value} {wr w2 : World} (HO : wr.ownsRow C T k v n xs) (hC : B ≤ C) (hg : wr.grownBy w2 v.ownBlock) : Fr B (fun t => t = T) wr w2 := by
  refine ⟨v.ownBlock.toList, ⟨hg.os, hg.tape, hg.output, hg.size, fun i hi hn => hg.block i hi (fun e => hn (by rw [← e]; simp))⟩, fun i hi => ?_⟩
  simp at hi
  have h1 := HO.lt i hi
  refine ⟨by omega, .inr ?_⟩
  rcases HO.2 with ⟨hn, _⟩ | ⟨g, cap, cur, hv, hg, hh, r⟩
  · subst hn; simp [Value.ownBlock] at hi
  · subst hv
    simp [Value.ownBlock] at hi
    subst hi
    exact ⟨cur, T, hh, rfl⟩
def cat (R : Nat → List Rec) : Nat → List Rec
  | 0 => []
  | k + 1 => cat R k ++ R k
def JoinP (rs : List Rec) (w : World) (e : Ending) (w' : World) : Prop := ∃ v' T ks', e = .returned v' ∧ IsRk (ltj rs) rs.length T ∧ OnRk (ltj rs) rs.length T ∧ w'.ownsRow w.heap.size 36 2 v' ks'.length (enc ks') ∧ Ps w.heap.size ks' (perm rs T) w' ∧ Below w.heap.size w w'
theorem cat_len {R : Nat → List Rec} (h : ∀ k, k < 4 → (R k).length ≤ 40) : ∀ k, k ≤ 4 → (cat R k).length ≤ 40 * k
  | 0, _ => by simp [cat]
  | k + 1, hk => by
    have h1 := cat_len h k (by omega)
    have h2 := h k (by omega)
    simp only [cat, List.length_append]
    omega
theorem join_end {rs : List Rec} {B g cap : Nat} {ks : List (Int × Value)} {w1 w2 : World} {T : List Int} (hp : Ps B ks rs w1) (hT : OnRk (ltj rs) rs.length T) (ho : Own (tbl ks) B g rs.length cap T w1 w2) (hg : ∃ cur, w1.heap[g]? = some (.cells cur 36 (0, 0))) : w2.ownsRow B 36 2 (.slice (some ⟨g, 0, none⟩) rs.length cap) (T.map (tbl ks).e).length (enc (T.map (tbl ks).e)) ∧ Ps B (T.map (tbl ks).e) (perm rs T) w2 := by
  obtain ⟨h1, h2, h3, h4⟩ := ho
  refine ⟨by rw [List.length_map, h1]; exact h3, ?_⟩
  have p := perm_ps hp (isRk_rng hT) h1
  refine ⟨p.1, fun j k r e1 e2 => ⟨(p.2 j k r e1 e2).1, ?_, (p.2 j k r e1 e2).2.2⟩⟩
  refine (p.2 j k r e1 e2).2.1.keep h4 (fun i hi => ?_)
  simp at hi
  subst hi
  obtain ⟨cur, hc⟩ := hg
  exact .inr ⟨cur, 36, hc, by decide⟩
set_option maxRecDepth 100000 in
set_option maxHeartbeats 8000000 in
theorem join_any (z : Nat) (pv : Nat → Value) (R : Nat → List Rec) (w : World) (hzl : z < w.heap.size) (hz : ∀ k, k < 4 → w.cell? ⟨z, k, none⟩ = some (pv k)) (hl : ∀ k, k < 4 → LogAt w (pv k) (R k)) :
    Calls Try.prog 16 #[.slice (some ⟨z, 0, none⟩) 4 4] w (JoinP (cat R 4) w) := by
  have hR : ∀ k, k < 4 → (R k).length ≤ 40 := fun k hk => by
    rcases hl k hk with ⟨_, h⟩ | ⟨q, ks, u, B, C, _, _, _, _, h⟩
    · rw [h]; simp
    · exact h
  have CL := Lib.hid (cat_len hR)
  have RL := Lib.hid hR
  have HZ := Lib.hid (fun k (hk : k < 4) W (h : Below w.heap.size w W) => And.intro ((h.cell (p := ⟨z, k, none⟩) hzl).trans (hz k hk)) ((hl k hk).up h))
  clear hz hl hR
  go_enter Try.func16, Try.ntmps16
  go_wp2
  go_loopw [3, 8] (fun o i wr => ∃ (k : Nat) (ks : List (Int × Value)), k ≤ 4 ∧ i = .int .i64 k ∧ Hid (wr.ownsRow w.heap.size 36 2 o ks.length (enc ks)) ∧ Hid (Ps w.heap.size ks (cat R k) wr) ∧ Hid (Below w.heap.size w wr)) (fun _ i _ => 4 - (intOf i).toNat)
  case atStart => exact ⟨0, [], by omega, rfl, Lib.hid (World.ownsRow_nil _ _ _ _), Lib.hid (Ps.nil _ _), Lib.hid (Below.refl _ _)⟩
  case round =>
    obtain ⟨k, ks, hk, rfl, O, P, BW⟩ := hrel
    by_cases hlt : k < 4
    · have i1 : (k : Int) < 4 := by omega
      have hwk : IntKind.i64.wrap ((k : Int) + 1) = (k : Int) + 1 := IntWalk.i64_in _ (by omega)
      obtain ⟨hc, hlg⟩ := HZ.out k hlt _ BW.out
      have AL := Lib.hid (logAll hlg)
      have hws := BW.out.size
      have r40 := RL.out k hlt
      have c160 := CL.out k (by omega)
      clear hlg
      generalize pv k = pk at *
      go_wp2_with fail
      refine AL.out.mono ?_; rintro e w3 ⟨x, ks3, rfl, ho3, hp3, hb3⟩
      have O3 := Lib.hid ho3
      have P3 := Lib.hid hp3
      have O2 := Lib.hid ((Fr.of (B := 0) (P := fun _ => False) hb3).row O.out (fun h => h))
      have P2 := Lib.hid (P.out.up hb3)
      have B3 := Lib.hid (BW.out.trans (hb3.mono hws))
      have hl3 := hp3.1
      have hl2 := P.out.1
      have hs3 := hb3.size
      clear ho3 hp3 hb3 AL O P hc
      go_wp2_with (at_builtin; refine wpList_app36 rfl _ _ rfl rfl w.heap.size _ _ _ _ _ _ _ rfl rfl O2.out O3.out (enc_one P3.out) (by omega) (by omega) ?_)
      intro v4 w4 ho4 hg4
      have F4 := Lib.hid (app_fr0 (B := w.heap.size) O2.out (Nat.le_refl _) hg4)
      have O4 := Lib.hid (enc_snocs hl2 hl3 ho4)
      have P4 := Lib.hid (show Ps w.heap.size (ks ++ ks3) (cat R (k + 1)) w4 from Ps.apps (P2.out.fr F4.out (by decide)) ((P3.out.fr F4.out (by decide)).mono hws))
      have B4 := Lib.hid (F4.out.below B3.out (by omega))
      clear ho4 hg4 O2 O3 P2 P3 F4 B3 hl2 hl3
      go_wp2
      go_roundw
      case rel => exact ⟨k + 1, ks ++ ks3, by omega, by go_num, O4, P4, B4⟩
      case measure => simp [intOf]; omega
    · obtain rfl : k = 4 := by omega
      have hkl := P.out.1
      have c160 := CL.out 4 (by omega)
      clear HZ CL RL
      have hws := BW.out.size
      rcases O.out.2 with ⟨rfl, hn0⟩ | ⟨g, cap, cur, rfl, hgB, hgc, _⟩
      · have SN := Lib.hid (sort_nil)
        have ks0 : ks = [] := List.length_eq_zero_iff.mp hn0
        have hcat : (cat R 4).length = 0 := by omega
        have FIN := Lib.hid (fun W (h : Below w.heap.size w W) => show JoinP (cat R 4) w (.returned (.slice none 0 0)) W from ⟨_, [], [], rfl, ⟨by simp [hcat], fun a ha => by omega⟩, fun x hx => by omega, World.ownsRow_nil _ _ _ _, ⟨by simp [perm], fun j k r h => by simp at h⟩, h⟩)
        clear O P hkl hcat
        go_wp2_with fail
        refine (SN.out _).mono ?_; rintro e w3 ⟨rfl, hb3⟩
        have B3 := Lib.hid (BW.out.trans (hb3.mono hws))
        clear hb3 SN
        go_wp2
        go_ret
        exact FIN.out _ B3.out
      · have OW : Own (tbl ks) w.heap.size g (cat R 4).length cap (upTo (cat R 4).length) _ _ := ⟨upTo_len _, hgB, by rw [tbl_up P.out, ← hkl]; exact O.out, Tw.refl _ _⟩
        have hblk := OW.blk
        have SO := Lib.hid (sort_any (tbl_tabs P.out) (by omega) OW)
        rw [← hkl] at SO
        have HKL := Lib.hid hkl
        clear OW hkl
        go_wp2_with fail
        refine SO.out.mono ?_; rintro e w3 ⟨rfl, T, h1, h2, ho⟩
        have hkl := HKL.out
        rw [hkl] at h1 h2 ho
        obtain ⟨j1, j2⟩ := join_end P.out h2 ho hblk
        have B3 := Lib.hid (ho.2.2.2.below BW.out (fun i hi => by simp at hi; subst hi; exact hgB) hws)
        have FIN := Lib.hid (show JoinP (cat R 4) w (.returned (.slice (some ⟨g, 0, none⟩) (cat R 4).length cap)) w3 from ⟨_, T, _, rfl, h1, h2, j1, j2, B3.out⟩)
        rw [← hkl] at FIN
        clear h1 h2 ho j1 j2 SO P O hblk hkl
        go_wp2
        go_ret
        exact FIN.out
end Go.Proofs.Ytgldgilhegdpjaa.so

/-
  The walk of kurganlaw09.OrderTurns.
-/
import Derived.Test.YteceibafagekiaaInv
import Derived.Test.YteceibafagekiaaOrds
namespace Go.Proofs.Yteceibafagekiaa
open Go.RowKit
set_option linter.unusedVariables false

theorem inv_back {p l : List Int} (h : isP p) (he : ∀ j, j < p.length → nth l (nth p j).toNat = j) : ∀ k, k < p.length → nth p (nth l k).toNat = k := fun k hk => by
  have := isP_mem h k hk
  obtain ⟨j, hj, e⟩ := List.mem_iff_getElem.1 this
  have e' : nth p j = (k : Int) := by rw [nth_at p j hj]; exact e
  have := he j hj
  rw [e'] at this
  have e2 : nth l k = (j : Int) := by simpa using this
  rw [e2]; simpa using e'
theorem Own.len {B g n cap : Nat} {l : List Int} {w0 wr : World} (h : Own B g n cap l w0 wr) : l.length = n := h.1
theorem cut60 (l : List Int) (a : Option Addr) (n c : Nat) (w : World) (h : Arg 60 w a n c l) :
    Calls Try.prog 8 #[.slice a n c, .int .i64 60] w fun e w' => ∃ g cap, e = .returned (.slice (some ⟨g, 0, none⟩) l.length cap) ∧ Own w.heap.size g l.length cap l w w' := cut_any 60 (by decide) l a n c w h
open Classical in
set_option maxRecDepth 100000 in
set_option maxHeartbeats 8000000 in
theorem orderTurns_walk (p : List Int) (pa : Option Addr) (pn pc : Nat) (q : List Int) (qa : Option Addr) (qn qc : Nat) (w : World) (h1 : Arg 60 w pa pn pc p) (h2 : Arg 60 w qa qn qc q) :
    Calls Try.prog 5 #[.slice pa pn pc, .slice qa qn qc] w fun e w' => e = .returned (.bool true) ∧ Below w.heap.size w w' := by
  have lp := h1.len
  have lq := h2.len
  have HC1 := Lib.hid (cut60 p pa pn pc w h1)
  have HC2 := Lib.hid (fun W (hW : Below w.heap.size w W) => cut60 q qa qn qc W (h2.keep hW))
  have HOr := Lib.hid (fun W => orders_any W)
  have HIs := Lib.hid (fun W (g c : Nat) (hI : Ints W (some ⟨g, 0, none⟩) p) => is_any p (by omega) (some ⟨g, 0, none⟩) c W hI)
  have HRp := Lib.hid (fun W (g c : Nat) (hI : Ints W (some ⟨g, 0, none⟩) p) => refIs_any p (by omega) (some ⟨g, 0, none⟩) c W hI)
  have HRq := Lib.hid (fun W (g c : Nat) (hI : Ints W (some ⟨g, 0, none⟩) q) => refIs_any q (by omega) (some ⟨g, 0, none⟩) c W hI)
  clear h1 h2
  by_cases hP : isP p
  rotate_left
  · have HInv := Lib.hid (fun W (g c : Nat) (hI : Ints W (some ⟨g, 0, none⟩) p) => inverse_no p hP (by omega) (some ⟨g, 0, none⟩) c W hI)
    have HThn := Lib.hid (fun W (g1 g2 c1 c2 : Nat) (hI : Ints W (some ⟨g1, 0, none⟩) p) (hJ : Ints W (some ⟨g2, 0, none⟩) q) => then_no p q (fun h => hP h.1) (by omega) (by omega) (some ⟨g1, 0, none⟩) (some ⟨g2, 0, none⟩) c1 c2 W hI hJ)
    have e1 : decide (isP p) = false := by simpa using hP
    rw [e1] at HIs HRp
    clear hP e1 lp lq HRq
    generalize p.length = n at *
    generalize q.length = m at *
    go_enter Try.func5, Try.ntmps5
    go_wp2_with fail
    with_reducible refine HC1.out.mono ?_
    rintro e w1 ⟨gp, kp, rfl, ho⟩
    have HOp := Lib.hid ho
    have HB1 := Lib.hid ho.2.2.2
    clear ho HC1
    go_wp2_with fail
    with_reducible refine (HC2.out w1 HB1.out).mono ?_
    rintro e w2 ⟨gq, kq, rfl, ho⟩
    have HOq := Lib.hid ho
    have D2 := Lib.hid ho.2.2.2
    have HIp := Lib.hid (HOp.out.keep D2.out).ints
    have HIq := Lib.hid HOq.out.ints
    clear ho HC2 HOp HOq
    have B2 := Lib.hid (bl_tr HB1.out D2.out)
    clear D2 HB1
    go_wp2_with fail
    with_reducible refine (HInv.out w2 gp kp HIp.out).mono ?_
    rintro e w3 ⟨rfl, hb⟩
    have D3 := Lib.hid hb
    clear hb
    go_wp2_with fail
    with_reducible refine (HThn.out w3 gp gq kp kq (HIp.out.keep D3.out) (HIq.out.keep D3.out)).mono ?_
    rintro e w4 ⟨rfl, hb⟩
    have D4 := Lib.hid (bl_tr D3.out hb)

    clear hb
    go_wp2_with fail
    with_reducible refine (HOr.out w4).mono ?_
    rintro e w5 ⟨rfl, hb⟩
    have D5 := Lib.hid (bl_tr D4.out hb)
    have E5 := Lib.hid hb
    clear hb
    go_wp2_with fail
    with_reducible refine (HIs.out w5 gp kp (HIp.out.keep D5.out)).mono ?_
    rintro e w6 ⟨rfl, hb⟩
    have D6 := Lib.hid (bl_tr D5.out hb)
    have E6 := Lib.hid (bl_tr E5.out hb)
    clear hb
    go_wp2_with fail
    with_reducible refine (HRp.out w6 gp kp (HIp.out.keep D6.out)).mono ?_
    rintro e w6' ⟨rfl, rfl⟩
    go_wp2_with fail
    with_reducible refine (HRp.out w6 gp kp (HIp.out.keep D6.out)).mono ?_
    rintro e w6' ⟨rfl, rfl⟩
    go_wp2_with fail
    with_reducible refine (HRp.out w6 gp kp (HIp.out.keep D6.out)).mono ?_
    rintro e w6' ⟨rfl, rfl⟩
    go_wp2
    go_ret
    exact ⟨rfl, bl_tr B2.out D6.out⟩

  have HInv := Lib.hid (fun W (g c : Nat) (hI : Ints W (some ⟨g, 0, none⟩) p) => inverse_ok p hP (by omega) (some ⟨g, 0, none⟩) c W hI)
  have HTi := Lib.hid (fun W (g1 g2 c1 : Nat) (li : List Int) (hl : li.length = p.length) (hli : ∀ j, j < p.length → nth li (nth p j).toNat = j) (hI : Ints W (some ⟨g1, 0, none⟩) p) (hJ : Ints W (some ⟨g2, 0, none⟩) li) =>
    (show Calls Try.prog 17 #[.slice (some ⟨g1, 0, none⟩) p.length c1, .slice (some ⟨g2, 0, none⟩) p.length p.length] W fun e w' => ∃ g l, e = .returned (.tuple #[.slice (some ⟨g, 0, none⟩) p.length p.length, .int .i64 0]) ∧ Own W.heap.size g p.length p.length l W w' ∧ ∀ j, j < p.length → nth l j = nth p (nth li j).toNat from by
      have := then_ok p li hP (inv_isP hP hl hli) hl.symm (by omega) (some ⟨g1, 0, none⟩) (some ⟨g2, 0, none⟩) c1 p.length W hI hJ
      unfold ThenP at this
      rw [hl] at this
      exact this))
  have HFx := Lib.hid (fun (W : World) (gp gi gb : Nat) (li lb : List Int) (h1 : li.length = p.length) (h2 : lb.length = p.length) (hp : Ints W (some ⟨gp, 0, none⟩) p) (hi : Ints W (some ⟨gi, 0, none⟩) li) (hb : Ints W (some ⟨gb, 0, none⟩) lb) (hli : ∀ j, j < p.length → nth li (nth p j).toNat = j) (hlb : ∀ j, j < p.length → nth lb j = nth p (nth li j).toNat) (k : Nat) (hk : k < p.length) =>
    (show W.cell? ⟨gp, k, none⟩ = some (.int .i64 (nth p k)) ∧ W.cell? ⟨gi, (nth p k).toNat, none⟩ = some (.int .i64 k) ∧ W.cell? ⟨gb, k, none⟩ = some (.int .i64 k) ∧ 0 ≤ nth p k ∧ nth p k < p.length from by
      have r := (isP_ok hP).1 k hk
      obtain ⟨b1, o1, e1, _, c1⟩ := hp k hk
      obtain ⟨b2, o2, e2, _, c2⟩ := hi (nth p k).toNat (by omega)
      obtain ⟨b3, o3, e3, _, c3⟩ := hb k (by omega)
      simp only [Option.some.injEq, Addr.mk.injEq, and_true] at e1 e2 e3
      obtain ⟨rfl, rfl⟩ := e1
      obtain ⟨rfl, rfl⟩ := e2
      obtain ⟨rfl, rfl⟩ := e3
      rw [Nat.zero_add] at c1 c2 c3
      rw [hli k hk] at c2
      rw [hlb k hk, inv_back hP hli k hk] at c3
      exact ⟨c1, c2, c3, r.1, r.2⟩))
  have e1 : decide (isP p) = true := by simpa using hP
  rw [e1] at HIs HRp
  unfold InvP at HInv
  by_cases hQ : isP q ∧ p.length = q.length
  · obtain ⟨hQ, hL⟩ := hQ
    have HThn := Lib.hid (fun W (g1 g2 c1 c2 : Nat) (hI : Ints W (some ⟨g1, 0, none⟩) p) (hJ : Ints W (some ⟨g2, 0, none⟩) q) => then_ok p q hP hQ hL (by omega) (some ⟨g1, 0, none⟩) (some ⟨g2, 0, none⟩) c1 c2 W hI hJ)
    unfold ThenP at HThn
    have e2 : decide (isP q) = true := by simpa using hQ
    rw [e2] at HRq
    have HGx := Lib.hid (fun (W : World) (gp gq gt : Nat) (lt : List Int) (h1 : lt.length = q.length) (hp : Ints W (some ⟨gp, 0, none⟩) p) (hq : Ints W (some ⟨gq, 0, none⟩) q) (ht : Ints W (some ⟨gt, 0, none⟩) lt) (hlt : ∀ j, j < q.length → nth lt j = nth p (nth q j).toNat) (k : Nat) (hk : k < q.length) =>
      (show W.cell? ⟨gq, k, none⟩ = some (.int .i64 (nth q k)) ∧ W.cell? ⟨gp, (nth q k).toNat, none⟩ = some (.int .i64 (nth p (nth q k).toNat)) ∧ W.cell? ⟨gt, k, none⟩ = some (.int .i64 (nth p (nth q k).toNat)) ∧ 0 ≤ nth q k ∧ nth q k < q.length from by
        have r := (isP_ok hQ).1 k hk
        obtain ⟨b1, o1, e1, _, c1⟩ := hq k hk
        obtain ⟨b2, o2, e2, _, c2⟩ := hp (nth q k).toNat (by omega)
        obtain ⟨b3, o3, e3, _, c3⟩ := ht k (by omega)
        simp only [Option.some.injEq, Addr.mk.injEq, and_true] at e1 e2 e3
        obtain ⟨rfl, rfl⟩ := e1
        obtain ⟨rfl, rfl⟩ := e2
        obtain ⟨rfl, rfl⟩ := e3
        rw [Nat.zero_add] at c1 c2 c3
        rw [hlt k hk] at c3
        exact ⟨c1, c2, c3, r.1, r.2⟩))
    rw [← hL] at HThn HRq HGx HC2
    have HLe := Lib.hid hL
    clear hP hQ e1 e2 hL lq
    generalize p.length = n at *
    go_enter Try.func5, Try.ntmps5
    go_wp2_with fail
    with_reducible refine HC1.out.mono ?_
    rintro e w1 ⟨gp, kp, rfl, ho⟩
    have HOp := Lib.hid ho
    have HB1 := Lib.hid ho.2.2.2
    clear ho HC1
    go_wp2_with fail
    with_reducible refine (HC2.out w1 HB1.out).mono ?_
    rintro e w2 ⟨gq, kq, rfl, ho⟩
    have HOq := Lib.hid ho
    have D2 := Lib.hid ho.2.2.2
    have HIp := Lib.hid (HOp.out.keep D2.out).ints
    have HIq := Lib.hid HOq.out.ints
    clear ho HC2 HOp HOq
    have B2 := Lib.hid (bl_tr HB1.out D2.out)
    clear D2 HB1
    go_wp2_with fail
    with_reducible refine (HInv.out w2 gp kp HIp.out).mono ?_
    rintro e w3 ⟨gi, li, rfl, ho, hli⟩
    have HOi := Lib.hid ho
    have D3 := Lib.hid ho.2.2.2
    have HLi := Lib.hid hli
    clear ho hli
    go_wp2_with fail
    with_reducible refine (HThn.out w3 gp gq kp kq (HIp.out.keep D3.out) (HIq.out.keep D3.out)).mono ?_
    rintro e w4 ⟨gt, lt, rfl, ho, hlt⟩
    have hb := ho.2.2.2
    have D4 := Lib.hid (bl_tr D3.out hb)
    have HOt := Lib.hid ho
    have HLt := Lib.hid hlt
    have HOi4 := Lib.hid (HOi.out.keep hb)
    clear hb ho hlt
    go_wp2_with fail
    with_reducible refine (HOr.out w4).mono ?_
    rintro e w5 ⟨rfl, hb⟩
    have D5 := Lib.hid (bl_tr D4.out hb)
    have E5 := Lib.hid hb
    clear hb
    go_wp2_with fail
    with_reducible refine (HIs.out w5 gp kp (HIp.out.keep D5.out)).mono ?_
    rintro e w6 ⟨rfl, hb⟩
    have D6 := Lib.hid (bl_tr D5.out hb)
    have E6 := Lib.hid (bl_tr E5.out hb)
    clear hb
    go_wp2_with fail
    with_reducible refine (HRp.out w6 gp kp (HIp.out.keep D6.out)).mono ?_
    rintro e w6' ⟨rfl, rfl⟩
    go_wp2_with fail
    with_reducible refine (HRp.out w6 gp kp (HIp.out.keep D6.out)).mono ?_
    rintro e w6' ⟨rfl, rfl⟩
    go_wp2_with fail
    with_reducible refine (HRp.out w6 gp kp (HIp.out.keep D6.out)).mono ?_
    rintro e w6' ⟨rfl, rfl⟩
    go_wp2_with fail
    with_reducible refine (HRq.out w6 gq kq (HIq.out.keep D6.out)).mono ?_
    rintro e w6' ⟨rfl, rfl⟩
    have HOi6 := Lib.hid (HOi4.out.keep E6.out)
    go_wp2_with fail
    with_reducible refine (HTi.out w6 gp gi kp li HOi6.out.len HLi.out (HIp.out.keep D6.out) HOi6.out.ints).mono ?_
    rintro e w7 ⟨gb, lb, rfl, ho, hlb⟩
    have hb := ho.2.2.2
    have D7 := Lib.hid (bl_tr D6.out hb)
    have E7 := Lib.hid (bl_tr E6.out hb)
    have HIi := Lib.hid (HOi6.out.keep hb).ints
    have HIb := Lib.hid ho.ints
    have HLb := Lib.hid hlb
    have HIp7 := Lib.hid (HIp.out.keep D7.out)
    have HIq7 := Lib.hid (HIq.out.keep D7.out)
    have HIt7 := Lib.hid (HOt.out.keep E7.out).ints
    have F2 : Hid (∀ k, k < n → w7.cell? ⟨gq, k, none⟩ = some (.int .i64 (nth q k)) ∧ w7.cell? ⟨gp, (nth q k).toNat, none⟩ = some (.int .i64 (nth p (nth q k).toNat)) ∧ w7.cell? ⟨gt, k, none⟩ = some (.int .i64 (nth p (nth q k).toNat)) ∧ 0 ≤ nth q k ∧ nth q k < n) := fun k hk => HGx.out w7 gp gq gt lt HOt.out.len HIp7.out HIq7.out HIt7.out HLt.out k hk
    have hlil := Lib.hid HOi6.out.len
    have hlbl := Lib.hid ho.len
    clear hb ho hlb
    have F1 : Hid (∀ k, k < n → w7.cell? ⟨gp, k, none⟩ = some (.int .i64 (nth p k)) ∧ w7.cell? ⟨gi, (nth p k).toNat, none⟩ = some (.int .i64 k) ∧ w7.cell? ⟨gb, k, none⟩ = some (.int .i64 k) ∧ 0 ≤ nth p k ∧ nth p k < n) := fun k hk => HFx.out w7 gp gi gb li lb hlil.out hlbl.out HIp7.out HIi.out HIb.out HLi.out HLb.out k hk
    go_wp2
    go_loop [11] (fun i => ∃ k : Nat, k ≤ n ∧ i = .int .i64 k) (fun i => n - (intOf i).toNat)
    case atStart => exact ⟨0, by omega, rfl⟩
    case round =>
      obtain ⟨k, hk, rfl⟩ := hrel
      by_cases hlt : k < n
      · obtain ⟨c1, c2, c3, c4, c5⟩ := F1.out k hlt
        generalize nth p k = t at *
        have e1 : ((k : Int) != (k : Int)) = false := by simp
        go_wp2
        go_round
        case rel => exact ⟨k + 1, by omega, by go_num⟩
        case measure => simp [intOf]; omega
      · obtain rfl : n = k := by omega
        go_wp2
        go_loopw [12] (fun i wr => ∃ k : Nat, k ≤ n ∧ i = .int .i64 k ∧ ∃ m, wr = w7.drewN m) (fun i _ => n - (intOf i).toNat)
        case atStart => exact ⟨0, by omega, rfl, 0, rfl⟩
        case round =>
          obtain ⟨k, hk, rfl, m, rfl⟩ := hrel
          by_cases hlt : k < n
          · obtain ⟨c1, c2, c3, c4, c5⟩ := F2.out k hlt
            generalize nth p (nth q k).toNat = x at *
            generalize nth q k = t at *
            have e1 : (x != x) = false := by simp
            have g1 : (0 : Int) ≤ (k : Int) := by omega
            have g2 : (k : Int) < (n : Int) := by omega
            go_wp2
            go_quiet (fail)
            go_wp2
            go_roundw
            case rel => exact ⟨k + 1, by omega, by go_num, _, rfl⟩
            case measure => simp [intOf]; omega
          · obtain rfl : n = k := by omega
            go_wp2
            go_ret
            exact ⟨rfl, bl_dn (bl_tr B2.out D7.out) _⟩

  · have HThn := Lib.hid (fun W (g1 g2 c1 c2 : Nat) (hI : Ints W (some ⟨g1, 0, none⟩) p) (hJ : Ints W (some ⟨g2, 0, none⟩) q) => then_no p q (fun h => hQ h.2) (by omega) (by omega) (some ⟨g1, 0, none⟩) (some ⟨g2, 0, none⟩) c1 c2 W hI hJ)
    by_cases hq : isP q
    · have hL : ¬ p.length = q.length := fun h => hQ ⟨hq, h⟩
      have e2 : decide (isP q) = true := by simpa using hq
      rw [e2] at HRq
      clear hP hQ hq e1 e2 lq
      generalize p.length = n at *
      generalize q.length = m at *
      have e3 : ((n : Int) == (m : Int)) = false := by simp; omega
      go_enter Try.func5, Try.ntmps5
      go_wp2_with fail
      with_reducible refine HC1.out.mono ?_
      rintro e w1 ⟨gp, kp, rfl, ho⟩
      have HOp := Lib.hid ho
      have HB1 := Lib.hid ho.2.2.2
      clear ho HC1
      go_wp2_with fail
      with_reducible refine (HC2.out w1 HB1.out).mono ?_
      rintro e w2 ⟨gq, kq, rfl, ho⟩
      have HOq := Lib.hid ho
      have D2 := Lib.hid ho.2.2.2
      have HIp := Lib.hid (HOp.out.keep D2.out).ints
      have HIq := Lib.hid HOq.out.ints
      clear ho HC2 HOp HOq
      have B2 := Lib.hid (bl_tr HB1.out D2.out)
      clear D2 HB1
      go_wp2_with fail
      with_reducible refine (HInv.out w2 gp kp HIp.out).mono ?_
      rintro e w3 ⟨gi, li, rfl, ho, hli⟩
      have HOi := Lib.hid ho
      have D3 := Lib.hid ho.2.2.2
      have HLi := Lib.hid hli
      clear ho hli
      go_wp2_with fail
      with_reducible refine (HThn.out w3 gp gq kp kq (HIp.out.keep D3.out) (HIq.out.keep D3.out)).mono ?_
      rintro e w4 ⟨rfl, hb⟩
      have D4 := Lib.hid (bl_tr D3.out hb)
      have HOi4 := Lib.hid (HOi.out.keep hb)
      clear hb
      go_wp2_with fail
      with_reducible refine (HOr.out w4).mono ?_
      rintro e w5 ⟨rfl, hb⟩
      have D5 := Lib.hid (bl_tr D4.out hb)
      have E5 := Lib.hid hb
      clear hb
      go_wp2_with fail
      with_reducible refine (HIs.out w5 gp kp (HIp.out.keep D5.out)).mono ?_
      rintro e w6 ⟨rfl, hb⟩
      have D6 := Lib.hid (bl_tr D5.out hb)
      have E6 := Lib.hid (bl_tr E5.out hb)
      clear hb
      go_wp2_with fail
      with_reducible refine (HRp.out w6 gp kp (HIp.out.keep D6.out)).mono ?_
      rintro e w6' ⟨rfl, rfl⟩
      go_wp2_with fail
      with_reducible refine (HRp.out w6 gp kp (HIp.out.keep D6.out)).mono ?_
      rintro e w6' ⟨rfl, rfl⟩
      go_wp2_with fail
      with_reducible refine (HRp.out w6 gp kp (HIp.out.keep D6.out)).mono ?_
      rintro e w6' ⟨rfl, rfl⟩
      go_wp2_with fail
      with_reducible refine (HRq.out w6 gq kq (HIq.out.keep D6.out)).mono ?_
      rintro e w6' ⟨rfl, rfl⟩
      have HOi6 := Lib.hid (HOi4.out.keep E6.out)
      go_wp2_with fail
      with_reducible refine (HTi.out w6 gp gi kp li HOi6.out.len HLi.out (HIp.out.keep D6.out) HOi6.out.ints).mono ?_
      rintro e w7 ⟨gb, lb, rfl, ho, hlb⟩
      have hb := ho.2.2.2
      have D7 := Lib.hid (bl_tr D6.out hb)
      have E7 := Lib.hid (bl_tr E6.out hb)
      have HIi := Lib.hid (HOi6.out.keep hb).ints
      have HIb := Lib.hid ho.ints
      have HLb := Lib.hid hlb
      have HIp7 := Lib.hid (HIp.out.keep D7.out)

      have hlil := Lib.hid HOi6.out.len
      have hlbl := Lib.hid ho.len
      clear hb ho hlb
      have F1 : Hid (∀ k, k < n → w7.cell? ⟨gp, k, none⟩ = some (.int .i64 (nth p k)) ∧ w7.cell? ⟨gi, (nth p k).toNat, none⟩ = some (.int .i64 k) ∧ w7.cell? ⟨gb, k, none⟩ = some (.int .i64 k) ∧ 0 ≤ nth p k ∧ nth p k < n) := fun k hk => HFx.out w7 gp gi gb li lb hlil.out hlbl.out HIp7.out HIi.out HIb.out HLi.out HLb.out k hk
      go_wp2
      go_loop [11] (fun i => ∃ k : Nat, k ≤ n ∧ i = .int .i64 k) (fun i => n - (intOf i).toNat)
      case atStart => exact ⟨0, by omega, rfl⟩
      case round =>
        obtain ⟨k, hk, rfl⟩ := hrel
        by_cases hlt : k < n
        · obtain ⟨c1, c2, c3, c4, c5⟩ := F1.out k hlt
          generalize nth p k = t at *
          have e1 : ((k : Int) != (k : Int)) = false := by simp
          go_wp2
          go_round
          case rel => exact ⟨k + 1, by omega, by go_num⟩
          case measure => simp [intOf]; omega
        · obtain rfl : n = k := by omega
          go_wp2
          go_ret
          exact ⟨rfl, bl_tr B2.out D7.out⟩

    · have e2 : decide (isP q) = false := by simpa using hq
      rw [e2] at HRq
      clear hP hQ hq e1 e2 lq
      generalize p.length = n at *
      generalize q.length = m at *
      go_enter Try.func5, Try.ntmps5
      go_wp2_with fail
      with_reducible refine HC1.out.mono ?_
      rintro e w1 ⟨gp, kp, rfl, ho⟩
      have HOp := Lib.hid ho
      have HB1 := Lib.hid ho.2.2.2
      clear ho HC1
      go_wp2_with fail
      with_reducible refine (HC2.out w1 HB1.out).mono ?_
      rintro e w2 ⟨gq, kq, rfl, ho⟩
      have HOq := Lib.hid ho
      have D2 := Lib.hid ho.2.2.2
      have HIp := Lib.hid (HOp.out.keep D2.out).ints
      have HIq := Lib.hid HOq.out.ints
      clear ho HC2 HOp HOq
      have B2 := Lib.hid (bl_tr HB1.out D2.out)
      clear D2 HB1
      go_wp2_with fail
      with_reducible refine (HInv.out w2 gp kp HIp.out).mono ?_
      rintro e w3 ⟨gi, li, rfl, ho, hli⟩
      have HOi := Lib.hid ho
      have D3 := Lib.hid ho.2.2.2
      have HLi := Lib.hid hli
      clear ho hli
      go_wp2_with fail
      with_reducible refine (HThn.out w3 gp gq kp kq (HIp.out.keep D3.out) (HIq.out.keep D3.out)).mono ?_
      rintro e w4 ⟨rfl, hb⟩
      have D4 := Lib.hid (bl_tr D3.out hb)
      have HOi4 := Lib.hid (HOi.out.keep hb)
      clear hb
      go_wp2_with fail
      with_reducible refine (HOr.out w4).mono ?_
      rintro e w5 ⟨rfl, hb⟩
      have D5 := Lib.hid (bl_tr D4.out hb)
      have E5 := Lib.hid hb
      clear hb
      go_wp2_with fail
      with_reducible refine (HIs.out w5 gp kp (HIp.out.keep D5.out)).mono ?_
      rintro e w6 ⟨rfl, hb⟩
      have D6 := Lib.hid (bl_tr D5.out hb)
      have E6 := Lib.hid (bl_tr E5.out hb)
      clear hb
      go_wp2_with fail
      with_reducible refine (HRp.out w6 gp kp (HIp.out.keep D6.out)).mono ?_
      rintro e w6' ⟨rfl, rfl⟩
      go_wp2_with fail
      with_reducible refine (HRp.out w6 gp kp (HIp.out.keep D6.out)).mono ?_
      rintro e w6' ⟨rfl, rfl⟩
      go_wp2_with fail
      with_reducible refine (HRp.out w6 gp kp (HIp.out.keep D6.out)).mono ?_
      rintro e w6' ⟨rfl, rfl⟩
      go_wp2_with fail
      with_reducible refine (HRq.out w6 gq kq (HIq.out.keep D6.out)).mono ?_
      rintro e w6' ⟨rfl, rfl⟩
      have HOi6 := Lib.hid (HOi4.out.keep E6.out)
      go_wp2_with fail
      with_reducible refine (HTi.out w6 gp gi kp li HOi6.out.len HLi.out (HIp.out.keep D6.out) HOi6.out.ints).mono ?_
      rintro e w7 ⟨gb, lb, rfl, ho, hlb⟩
      have hb := ho.2.2.2
      have D7 := Lib.hid (bl_tr D6.out hb)
      have E7 := Lib.hid (bl_tr E6.out hb)
      have HIi := Lib.hid (HOi6.out.keep hb).ints
      have HIb := Lib.hid ho.ints
      have HLb := Lib.hid hlb
      have HIp7 := Lib.hid (HIp.out.keep D7.out)

      have hlil := Lib.hid HOi6.out.len
      have hlbl := Lib.hid ho.len
      clear hb ho hlb
      have F1 : Hid (∀ k, k < n → w7.cell? ⟨gp, k, none⟩ = some (.int .i64 (nth p k)) ∧ w7.cell? ⟨gi, (nth p k).toNat, none⟩ = some (.int .i64 k) ∧ w7.cell? ⟨gb, k, none⟩ = some (.int .i64 k) ∧ 0 ≤ nth p k ∧ nth p k < n) := fun k hk => HFx.out w7 gp gi gb li lb hlil.out hlbl.out HIp7.out HIi.out HIb.out HLi.out HLb.out k hk
      go_wp2
      go_loop [11] (fun i => ∃ k : Nat, k ≤ n ∧ i = .int .i64 k) (fun i => n - (intOf i).toNat)
      case atStart => exact ⟨0, by omega, rfl⟩
      case round =>
        obtain ⟨k, hk, rfl⟩ := hrel
        by_cases hlt : k < n
        · obtain ⟨c1, c2, c3, c4, c5⟩ := F1.out k hlt
          generalize nth p k = t at *
          have e1 : ((k : Int) != (k : Int)) = false := by simp
          go_wp2
          go_round
          case rel => exact ⟨k + 1, by omega, by go_num⟩
          case measure => simp [intOf]; omega
        · obtain rfl : n = k := by omega
          go_wp2
          go_ret
          exact ⟨rfl, bl_tr B2.out D7.out⟩

end Go.Proofs.Yteceibafagekiaa

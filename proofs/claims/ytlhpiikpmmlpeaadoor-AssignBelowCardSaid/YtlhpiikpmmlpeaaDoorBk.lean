/-
  assign: the reference's Kids.
-/
import Derived.Test.YtlhpiikpmmlpeaaDoorBb
import Derived.Test.YtlhpiikpmmlpeaaDoorAj
import Derived.Lib.SmallJoins
namespace Go.Proofs.YtlhpiikpmmlpeaaDoor.kn
open Go.RowKit
set_option linter.unusedVariables false
set_option linter.unusedSimpArgs false
theorem ol_od {B : Nat} {a : Option Addr} {cap : Nat} {l : List Int} {W : World} (h : Ol B (.slice a l.length cap) l W) : od.Ints W a l := fun j hj => by
  rcases Ol.ls h with ⟨a1, c, e, rfl⟩ | ⟨g, o, c, e, hc, hg, hm⟩
  · simp at hj
  · injection e with h0 _ _
    subst h0
    exact ⟨g, o, rfl, hg, by rw [hm j hj]; unfold nt od.nth; rfl⟩
set_option maxRecDepth 100000 in
set_option maxHeartbeats 16000000 in
theorem rkids_any (K C : Int) (n : Nat) (h1n : 1 ≤ n) (hn : n ≤ 24) (cl : List (List Int)) (hcl : cl.length = n) (hrl : ∀ j, j < n → (cl[j]?.getD []).length = n) (p : List Int) (hp : p.length ≤ 1000) (pa : Option Addr) (pc : Nat) (va vb' : Value) (ca : Option Addr) (cc : Nat) (w : World) (hI : Ints w pa p) (hR : Rws w ca cl) :
    Calls Tryd.prog 24 #[.agg #[.int .i64 K, .int .i64 n, .int .i64 C, va, vb', .slice ca n cc], .slice pa p.length pc] w (KiP n cl p w) := by
  obtain ⟨i0, hi, hz0, hz1, hz2⟩ := info_parts info3
  have b0 : Below w.heap.size w (w.alloc (.cells #[.int .i64 K, .int .i64 n, .int .i64 C, va, vb', .slice ca n cc] 25)) := bl_al (Below.refl _ _) _
  have Q0 := Lib.hid (heap_alloc_new w (.cells #[.int .i64 K, .int .i64 n, .int .i64 C, va, vb', .slice ca n cc] 25))
  have HFr := Lib.hid (rfree_any K C n hn p hp pa pc va vb' (.slice ca n cc) _ (hI.keep b0))
  have B0 := Lib.hid b0
  clear b0
  by_cases hP : Pre n p
  rotate_left
  · have HG : Hid (∀ w', Below w.heap.size w w' → KiP n cl p w (.returned (.tuple #[.slice none 0 0, .int .i64 1])) w') := Lib.hid fun w' hb => .inl ⟨hP, rfl, hb⟩
    have HP := Lib.hid hP
    clear hI hP hR hp
    obtain ⟨c0, c1, c2, c3, c4, c5⟩ := box6 Q0.out
    generalize KiP n cl p w = G at *
    generalize p.length = l at *
    go_enter Tryd.func24, Tryd.ntmps24
    go_wp2_with fail
    refine HFr.out.mono ?_; rintro e w1 q
    rcases q with ⟨_, rfl, hb1⟩ | ⟨q, _⟩
    rotate_left
    · exact absurd q HP.out
    have B1 := Lib.hid (bl_tr B0.out hb1)
    clear hb1
    go_wp2
    first
      | exact HG.out _ B1.out
      | (go_ret; exact HG.out _ B1.out)
  · have HP := Lib.hid hP
    by_cases hl : p.length = n
    · have HG : Hid (∀ w', Below w.heap.size w w' → KiP n cl p w (.returned (.tuple #[.slice none 0 0, .int .i64 0])) w') := Lib.hid fun w' hb => .inr (.inl ⟨hP, hl, rfl, hb⟩)
      clear hI hP hR hp
      obtain ⟨c0, c1, c2, c3, c4, c5⟩ := box6 Q0.out
      generalize KiP n cl p w = G at *
      generalize p.length = l at *
      subst hl
      go_enter Tryd.func24, Tryd.ntmps24
      go_wp2_with fail
      refine HFr.out.mono ?_; rintro e w1 q
      rcases q with ⟨q, _⟩ | ⟨_, a, cap, rfl, hO, hb1⟩
      · exact absurd HP.out q
      have B1 := Lib.hid (bl_tr B0.out hb1)
      clear c0 c1 c2 c3 c4 c5
      obtain ⟨c0, c1, c2, c3, c4, c5⟩ := box6 ((hb1.block _ (lt_hp Q0.out)).trans Q0.out)
      clear hb1 hO
      go_wp2
      first
        | exact HG.out _ B1.out
        | (go_ret; exact HG.out _ B1.out)
    · have hlt : p.length < n := by have := pre_len hP; omega
      have HG : Hid (∀ (g : Nat) (T : List Int) (w' : World), KidT (cl[p.length]?.getD []) (frl n p) T → od.Own w.heap.size g (frl n p).length (frl n p).length T w w' → KiP n cl p w (.returned (.tuple #[.slice (some ⟨g, 0, none⟩) (frl n p).length (frl n p).length, .int .i64 0])) w') := Lib.hid fun g T w' h1 h2 => by
        have e := h1.len
        refine .inr (.inr ⟨hP, hlt, g, (frl n p).length, T, ?_, h1, ?_⟩)
        · rw [e]
        · rw [e]; exact h2
      obtain ⟨rb, ro, aj, cj, er, lr, mr, ir, _⟩ := hR p.length (by omega)
      have hrw := hrl p.length hlt
      rw [hrw] at mr
      have MR := Lib.hid (fun (X : World) (hb : Below w.heap.size w X) => (hb.cell (p := ⟨rb, ro + p.length, none⟩) lr).trans mr)
      have HRow : Hid (∀ X, Below w.heap.size w X → ∀ j, j < n → ∃ b o, aj = some ⟨b, o, none⟩ ∧ X.cell? ⟨b, o + j, none⟩ = some (.int .i64 (od.nth (cl[p.length]?.getD []) j))) := Lib.hid fun X hb j hj => by
        obtain ⟨b, o, e1, _, m1⟩ := (ir.keep hb) j (by rw [hrw]; exact hj)
        exact ⟨b, o, e1, by rw [m1]; unfold od.nth; rfl⟩
      have FI := Lib.hid (frl_in (by omega : n ≤ 128) p)
      have FL := Lib.hid (frl_len (by omega : n ≤ 128) p)
      have HLs : Hid (∀ (a : Option Addr) (cap : Nat) (W2 : World) (B : Nat), Ol B (.slice a (frl n p).length cap) (frl n p) W2 → ∀ X, Below W2.heap.size W2 X → ∀ j, j < (frl n p).length → ∃ b o, a = some ⟨b, o, none⟩ ∧ X.cell? ⟨b, o + j, none⟩ = some (.int .i64 (od.nth (frl n p) j)) ∧ 0 ≤ od.nth (frl n p) j ∧ od.nth (frl n p) j < n) := Lib.hid fun a cap W2 B hO X hb j hj => by
        obtain ⟨b, o, e1, l1, m1⟩ := ol_od hO j hj
        exact ⟨b, o, e1, (hb.cell (p := ⟨b, o + j, none⟩) l1).trans m1, frl_in (by omega : n ≤ 128) p j hj⟩
      clear hI hP hR hp hl hrl hcl lr mr ir hrw
      generalize hLe : frl n p = L at *
      have HLe := Lib.hid hLe
      clear hLe
      generalize cl[p.length]?.getD [] = row at *
      obtain ⟨P, hPd⟩ : ∃ P : Nat → Nat → Nat, ∀ a b, P a b = od.cb (fun z => ltL row L z a) b := ⟨_, fun _ _ => rfl⟩
      have HP0 : Hid (∀ a, P a 0 = 0) := Lib.hid fun a => by rw [hPd, od.cb_zero]
      have HPy : Hid (∀ a b, ltL row L b a = true → P a (b + 1) = P a b + 1) := Lib.hid fun a b h => by rw [hPd, hPd]; exact od.cb_yes h
      have HPn : Hid (∀ a b, ltL row L b a = false → P a (b + 1) = P a b) := Lib.hid fun a b h => by rw [hPd, hPd]; exact od.cb_no (by simp [h])
      have HPl : Hid (∀ a b, P a b ≤ b) := Lib.hid fun a b => by rw [hPd]; exact od.cb_le _ _
      have HPr : Hid (∀ a, P a L.length = od.rko (ltL row L) L.length a) := Lib.hid fun a => hPd a _
      have HRin : Hid (∀ a, a < L.length → od.rko (ltL row L) L.length a < L.length) := Lib.hid fun a ha => od.rko_in (ltL_ord _ row L) ha
      have HRne : Hid (∀ a b, a < L.length → b < L.length → a ≠ b → od.rko (ltL row L) L.length a ≠ od.rko (ltL row L) L.length b) := Lib.hid fun a b ha hb hab => od.rko_ne (ltL_ord _ row L) ha hb hab
      have HLt : Hid (∀ b a, (ltL row L b a = true ↔ od.nth row (od.nth L b).toNat < od.nth row (od.nth L a).toNat ∨ (od.nth row (od.nth L b).toNat = od.nth row (od.nth L a).toNat ∧ b < a))) := Lib.hid fun b a => ltL_iff row L b a
      have HGm : Hid (∀ (g : Nat) (T : List Int) (w' : World), T.length = L.length → (∀ a, a < L.length → od.nth T (od.rko (ltL row L) L.length a) = od.nth L a) → od.Own w.heap.size g L.length L.length T w w' → KiP n cl p w (.returned (.tuple #[.slice (some ⟨g, 0, none⟩) L.length L.length, .int .i64 0])) w') := Lib.hid fun g T w' h1 h2 h3 => HG.out g T w' ⟨h1, h2⟩ h3
      clear HG hPd
      obtain ⟨c0, c1, c2, c3, c4, c5⟩ := box6 Q0.out
      generalize KiP n cl p w = G at *
      obtain ⟨l, hl2⟩ : ∃ l, l = p.length := ⟨_, rfl⟩
      rw [← hl2] at HFr hlt MR ⊢
      have p1 : (l : Int) < (n : Int) := by omega
      have p2 : (0 : Int) ≤ (l : Int) := by omega
      have p3 : ((l : Int) == (n : Int)) = false := by simp; omega
      clear hl2
      obtain ⟨m, hm⟩ : ∃ m, m = L.length := ⟨_, rfl⟩
      rw [← hm] at FL FI HLs HPr HRin HRne HGm
      have HMl := Lib.hid hm
      subst er
      go_enter Tryd.func24, Tryd.ntmps24
      go_wp2_with fail
      refine HFr.out.mono ?_; rintro e w1 q
      rcases q with ⟨q, _⟩ | ⟨_, a, cap, rfl, hO, hb1⟩
      · exact absurd HP.out q
      rw [HLe.out, ← hm] at hO
      rw [HLe.out, ← hm]
      have hml := FL.out
      have HL := Lib.hid (HLs.out a cap w1 _ hO)
      have B1 := Lib.hid (bl_tr B0.out hb1)
      have mr := MR.out w1 B1.out
      clear c0 c1 c2 c3 c4 c5 HLs MR hm
      obtain ⟨c0, c1, c2, c3, c4, c5⟩ := box6 ((hb1.block _ (lt_hp Q0.out)).trans Q0.out)
      clear hb1 hO HFr
      go_wp2_with (at_make; refine wpList_make_full _ rfl _ _ 22 rfl w1.heap.size 3 i0 (.int .i64 0) 1 Tryd.underlying22 hi hz0 hz1 .i64 .i64 _ _ m rfl rfl rfl rfl (by rw [hz2]; omega) (by unfold maxLen; omega) (Nat.le_refl _) ?_)
      intro w2 hown hgrow
      have A0 : Hid (od.Own w1.heap.size w1.heap.size m m (List.replicate m 0) w1 w2) := Lib.hid ⟨by simp, Nat.le_refl _, by rw [List.map_replicate, ← toList_madeCells_one]; exact hown, (Below.refl _ _).grown hgrow (Nat.le_refl _) (fun j hj => by cases hj)⟩
      clear hown hgrow c0 c1 c2 c3 c4 c5 mr
      obtain ⟨g, hg⟩ : ∃ g, g = w1.heap.size := ⟨_, rfl⟩
      rw [← hg] at A0
      go_wp2
      rw [← hg]
      have HG := Lib.hid hg
      clear hg
      go_loopw [10] (fun i wr => ∃ (x : Nat) (Z : List Int), x ≤ m ∧ i = .int .i64 x ∧ Hid (∀ x', x' < x → od.nth Z (od.rko (ltL row L) m x') = od.nth L x') ∧ Hid (od.Own g g m m Z w1 wr)) (fun i _ => m - (intOf i).toNat)
      case atStart => exact ⟨0, _, by omega, rfl, Lib.hid (fun a' h => by omega), A0⟩
      case round =>
        clear A0
        obtain ⟨x, Z, hx, rfl, HZ, HO⟩ := hrel
        by_cases hlx : x < m
        · have x1 : (x : Int) < (m : Int) := by omega
          have x0 : (0 : Int) ≤ (x : Int) := by omega
          go_wp2
          go_loopw [11, 12] (fun i j wr' => ∃ y : Nat, y ≤ m ∧ i = .int .i64 (P x y : Nat) ∧ j = .int .i64 y ∧ Hid (od.Own g g m m Z w1 wr')) (fun _ j _ => m - (intOf j).toNat)
          case atStart => exact ⟨0, by omega, by rw [HP0.out]; rfl, rfl, HO⟩
          case round =>
            clear HO
            obtain ⟨y, hy, rfl, rfl, HO⟩ := hrel
            have hPl := HPl.out x y
            have bel := HO.out.2.2.2
            rw [HG.out] at bel
            by_cases hly : y < m
            · have y1 : (y : Int) < (m : Int) := by omega
              have y0 : (0 : Int) ≤ (y : Int) := by omega
              obtain ⟨lb, lo, rfl, e1, v1, v2⟩ := HL.out _ bel y hly
              obtain ⟨lb', lo', ee, e2, u1, u2⟩ := HL.out _ bel x hlx
              injection ee with ee
              injection ee with ee1 ee2
              subst ee1 ee2
              obtain ⟨vn, hvn⟩ : ∃ vn : Nat, od.nth L y = (vn : Int) := ⟨(od.nth L y).toNat, by omega⟩
              obtain ⟨un, hun⟩ : ∃ un : Nat, od.nth L x = (un : Int) := ⟨(od.nth L x).toNat, by omega⟩
              rw [hvn] at e1
              rw [hun] at e2
              obtain ⟨qb, qo, rfl, r1⟩ := HRow.out _ (bl_tr B1.out bel) vn (by omega)
              obtain ⟨qb', qo', ee, r2⟩ := HRow.out _ (bl_tr B1.out bel) un (by omega)
              injection ee with ee
              injection ee with ee1 ee2
              subst ee1 ee2
              have vi1 : (vn : Int) < (n : Int) := by omega
              have vi0 : (0 : Int) ≤ (vn : Int) := by omega
              have ui1 : (un : Int) < (n : Int) := by omega
              have ui0 : (0 : Int) ≤ (un : Int) := by omega
              have lt := HLt.out y x
              rw [hvn, hun, Int.toNat_natCast, Int.toNat_natCast] at lt
              clear hvn hun v1 v2 u1 u2 bel
              have HO2 := Lib.hid (fun q => HO.out.keep (od.bl_dn (Below.refl wr.heap.size wr) q))
              have PY := HPy.out x y
              have PN := HPn.out x y
              generalize ltL row L y x = bb at *
              generalize P x y = px at *
              generalize od.nth row vn = rv at *
              generalize od.nth row un = ru at *
              by_cases q1 : rv < ru
              · have HPS := Lib.hid (PY (lt.2 (.inl q1)))
                have d1 := decide_eq_true q1
                clear lt PY PN
                go_wp2
                go_quiet (fail)
                go_wp2
                go_roundw
                case rel => exact ⟨y + 1, by omega, by rw [HPS.out]; go_num, by go_num, Lib.hid (HO2.out _)⟩
                case measure => simp [intOf]; omega
              · have d1 := decide_eq_false q1
                by_cases q2 : rv = ru
                · have d2 : (rv == ru) = true := by simp [q2]
                  by_cases q3 : y < x
                  · have HPS := Lib.hid (PY (lt.2 (.inr ⟨q2, q3⟩)))
                    have d3 := decide_eq_true q3
                    have d4 := decide_eq_true (show (y : Int) < (x : Int) by omega)
                    clear lt PY PN q2
                    go_wp2
                    go_quiet (fail)
                    go_wp2
                    go_roundw
                    case rel => exact ⟨y + 1, by omega, by rw [HPS.out]; go_num, by go_num, Lib.hid (HO2.out _)⟩
                    case measure => simp [intOf]; omega
                  · have HPS := Lib.hid (PN (Bool.eq_false_iff.2 (fun h => by rcases lt.1 h with h | h <;> omega)))
                    have d3 := decide_eq_false q3
                    have d4 := decide_eq_false (show ¬ (y : Int) < (x : Int) by omega)
                    clear lt PY PN q2
                    go_wp2
                    go_quiet (fail)
                    go_wp2
                    go_roundw
                    case rel => exact ⟨y + 1, by omega, by rw [HPS.out], by go_num, Lib.hid (HO2.out _)⟩
                    case measure => simp [intOf]; omega
                · have d2 : (rv == ru) = false := by simp [q2]
                  have HPS := Lib.hid (PN (Bool.eq_false_iff.2 (fun h => by rcases lt.1 h with h | h <;> omega)))
                  clear lt PY PN q2
                  go_wp2
                  go_quiet (fail)
                  go_wp2
                  go_roundw
                  case rel => exact ⟨y + 1, by omega, by rw [HPS.out], by go_num, Lib.hid (HO2.out _)⟩
                  case measure => simp [intOf]; omega
            · obtain rfl : m = y := by omega
              obtain ⟨lb, lo, rfl, e2, u1, u2⟩ := HL.out _ bel x hlx
              have hr := HPr.out x
              have hri := HRin.out x hlx
              have HZ2 : Hid (∀ x', x' < x + 1 → od.nth (Z.set (od.rko (ltL row L) m x) (od.nth L x)) (od.rko (ltL row L) m x') = od.nth L x') := Lib.hid fun x' hx' => by
                rw [od.nth_set _ _ _ _ (by rw [HO.out.1]; exact hri)]
                by_cases e : x' = x
                · subst e; rw [if_pos rfl]
                · rw [if_neg (fun q => HRne.out x x' hlx (by omega) (fun q' => e q'.symm) q)]
                  exact HZ.out x' (by omega)
              have HOs := Lib.hid (HO.out.set (od.rko (ltL row L) m x) (od.nth L x))
              have fz := HO.out.frozen (od.rko (ltL row L) m x)
              have cz := HO.out.cell (od.rko (ltL row L) m x) hri
              have r1 : ((od.rko (ltL row L) m x : Nat) : Int) < (m : Int) := by omega
              have r0 : (0 : Int) ≤ ((od.rko (ltL row L) m x : Nat) : Int) := by omega
              clear u1 u2 bel
              rw [hr]
              clear hr
              generalize od.rko (ltL row L) m x = r at *
              generalize od.nth L x = v at *
              go_wp2
              go_roundw
              case rel => exact ⟨x + 1, _, by omega, by go_num, HZ2, HOs⟩
              case measure => simp [intOf]; omega
        · obtain rfl : m = x := by omega
          have HE := Lib.hid (HGm.out g Z wr HO.out.1 HZ.out (by
            have q := own_low HO.out (C := w.heap.size) (by rw [HG.out]; exact B1.out.size) (w1 := w) (bl_tr B1.out (by have := HO.out.2.2.2; rw [HG.out] at this; exact this))
            exact q))
          go_wp2
          first
            | exact HE.out
            | (go_ret2; exact HE.out)
end Go.Proofs.YtlhpiikpmmlpeaaDoor.kn

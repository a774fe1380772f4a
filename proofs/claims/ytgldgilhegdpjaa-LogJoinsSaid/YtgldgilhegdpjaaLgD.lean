/-
  A log that is filled (fill).
-/
import Derived.Test.YtgldgilhegdpjaaLgE
import Derived.Test.YtgldgilhegdpjaaLg3
import Derived.Test.YtgldgilhegdpjaaAheadsL
namespace Go.Proofs.Ytgldgilhegdpjaa
open Go.RowKit
set_option linter.unusedVariables false
/-- records that came in: the first 40, of each path the first 20 numbers -/
def RArg (W : World) (a : Option Addr) (n c : Nat) (rs : List Rec) : Prop := ((n ≤ 40 ∧ rs.length = n) ∨ (40 < n ∧ rs.length = 40)) ∧ ∀ k r, rs[k]? = some r → ∃ b o pa pm pc, a = some ⟨b, o, none⟩ ∧ b < W.heap.size ∧ W.cell? ⟨b, o + k * 2, none⟩ = some (.int .i64 r.1) ∧ W.cell? ⟨b, o + k * 2 + 1, none⟩ = some (.slice pa pm pc) ∧ Arg 20 W pa pm pc r.2
def FillS (w : World) (rs : List Rec) (k : Nat) (wv : Value) (wr : World) : Prop := ∃ v ks wks, wr.heap[w.heap.size]? = some (.cells #[v] 43 (0, 0)) ∧ wr.ownsRow w.heap.size 36 2 v ks.length (enc ks) ∧ Ps w.heap.size ks (rs.take k) wr ∧ wr.ownsRow w.heap.size 45 2 wv wks.length (enc wks) ∧ Ps w.heap.size wks (rs.take k) wr ∧ Below w.heap.size w wr
def FillP (rs : List Rec) (w : World) (e : Ending) (w' : World) : Prop := ∃ wv, e = .returned (.tuple #[.pointer (some ⟨w.heap.size, 0, none⟩), wv]) ∧ FillS w rs rs.length wv w'
/-- the first list of a round -/
def NewL (l : List Int) (w : World) (v : Value) (w' : World) : Prop := ∃ g cap, v = .slice (some ⟨g, 0, none⟩) l.length cap ∧ Lst w.heap.size v l w' ∧ Below w.heap.size w w'
def NewR (B : Nat) (b : Int) (l : List Int) (wks : List (Int × Value)) (w : World) (v : Value) (w' : World) : Prop := ∃ p, w'.ownsRow B 45 2 v (wks ++ [(b, p)]).length (enc (wks ++ [(b, p)])) ∧ Lst w.heap.size p l w' ∧ Fr B (fun t => t = 45) w w'
theorem Fr.new {B g : Nat} {P : TypeId → Prop} {w w1 w2 : World} (h : Fr B P w w1) (t : Tw [g] w1 w2) (hg : w.heap.size ≤ g) (hB : B ≤ g) : Fr B P w w2 := by
  obtain ⟨S, u, hS⟩ := h
  refine ⟨S ++ [g], (u.mono (by simp +contextual)).trans (t.mono (by simp)), fun i hi => ?_⟩
  by_cases h1 : i ∈ S
  · exact hS i h1
  · have e : i = g := by simpa [h1] using hi
    subst e
    exact ⟨hB, .inl hg⟩
theorem fill_end {w wr w1 w2 w5 w6 : World} {rs : List Rec} {k n g : Nat} {ks wks : List (Int × Value)} {b : Int} {l : List Int} {v5 p5 p2 wv : Value} (hws : w.heap.size ≤ wr.heap.size) (PP : Ps w.heap.size ks (rs.take k) wr) (WP : Ps w.heap.size wks (rs.take k) wr) (NB : Below wr.heap.size wr w1) (F2 : Fr w.heap.size (fun t => t = 45) w1 w2) (F5 : Fr w.heap.size (fun t => t = 36 ∨ t = 43) w2 w5) (TW : Tw [g] w5 w6) (hg1 : wr.heap.size ≤ g) (hg2 : g < w1.heap.size) (JK : Junk g n w5)
    (Q5 : w5.heap[w.heap.size]? = some (.cells #[v5] 43 (0, 0))) (O5 : w5.ownsRow w.heap.size 36 2 v5 (ks ++ [(b, p5)]).length (enc (ks ++ [(b, p5)]))) (L5 : Lst w2.heap.size p5 l w5) (W2 : w2.ownsRow w.heap.size 45 2 wv (wks ++ [(b, p2)]).length (enc (wks ++ [(b, p2)]))) (L2 : Lst w1.heap.size p2 l w2) (TS : rs.take (k + 1) = rs.take k ++ [(b, l)]) (h20 : l.length ≤ 20) (B2 : Below w.heap.size w w2) : FillS w rs (k + 1) wv w6 := by
  have s1 := NB.size
  have s2 := F2.size
  have s5 := F5.size
  have F6 : Fr w.heap.size (fun t => t = 36 ∨ t = 43 ∨ t = 45) wr w6 := (((Fr.of NB).trans (F2.mono (fun t h => .inr (.inr h)))).trans (F5.mono (fun t h => by rcases h with h | h <;> simp [h]))).new TW hg1 (by omega)
  obtain ⟨⟨cur, hc⟩, _⟩ := JK
  have G6 : Fr w.heap.size (fun t => t = 3) w5 w6 := ⟨[g], TW, fun i hi => by simp at hi; subst hi; exact ⟨by omega, .inr ⟨_, _, hc, rfl⟩⟩⟩
  have K5 : Lst w.heap.size p5 l w6 := (L5.keep TW (fun i hi => by simp at hi; subst hi; exact .inl (by omega))).mono (by omega)
  have K2 : Lst w.heap.size p2 l w6 := ((F5.lst L2 (by decide)).keep TW (fun i hi => by simp at hi; subst hi; exact .inl (by omega))).mono (by omega)
  refine ⟨v5, ks ++ [(b, p5)], wks ++ [(b, p2)], G6.blk Q5 (.inl (by decide)), G6.row O5 (by decide), ?_, G6.row (F5.row W2 (by decide)) (by decide), ?_, G6.below (F5.below B2 (by omega)) (by omega)⟩
  · rw [TS]; exact (PP.fr F6 (by decide)).snoc b p5 l K5 h20
  · rw [TS]; exact (WP.fr F6 (by decide)).snoc b p2 l K2 h20
theorem undrew_g {X w2 : World} {r : Option Nat} (h : X.drew.grownBy w2 r) : X.grownBy w2 r := ⟨h.os, h.tape, h.output, h.size, h.block⟩
set_option maxRecDepth 100000 in
set_option maxHeartbeats 16000000 in
theorem fill_any (a : Option Addr) (n c : Nat) (rs : List Rec) (w : World) (hA : RArg w a n c rs) :
    Calls Try.prog 8 #[.slice a n c] w (FillP rs w) := by
  obtain ⟨i0, hi, hz0, hz1, hz2⟩ := info_parts info45
  have HA := Lib.hid hA.2
  have HN := Lib.hid hA.1
  have S0 : Hid (FillS w rs 0 (.slice none 0 0) (w.alloc (.cells #[.slice none 0 0] 43))) := Lib.hid ⟨.slice none 0 0, [], [], hal_new w (.cells #[.slice none 0 0] 43 (0, 0)), World.ownsRow_nil _ _ _ _, Ps.nil _ _, World.ownsRow_nil _ _ _ _, Ps.nil _ _, bl_al (Below.refl _ _) _⟩
  have hr40 : rs.length ≤ 40 := by rcases hA.1 with h | h <;> omega
  clear hA
  go_enter Try.func8, Try.ntmps8
  go_wp2_with fail
  go_loopw [5, 6] (fun wv i wr => ∃ k : Nat, k ≤ rs.length ∧ i = .int .i64 k ∧ Hid (FillS w rs k wv wr)) (fun _ i _ => 40 - (intOf i).toNat)
  case atStart => exact ⟨0, by omega, rfl, S0⟩
  case round =>
    clear S0
    obtain ⟨k, hk, rfl, S⟩ := hrel
    by_cases hlt : k < rs.length
    · have i1 : (k : Int) < (n : Int) := by rcases HN.out with h | h <;> omega
      have i2 : (k : Int) < 40 := by omega
      have hwk : IntKind.i64.wrap ((k : Int) + 1) = (k : Int) + 1 := IntWalk.i64_in _ (by omega)
      obtain ⟨v, ks, wks, hq, ho, hp, hwo, hwp, hb⟩ := S.out
      obtain ⟨b, l, hbl⟩ : ∃ b l, rs[k]? = some (b, l) := ⟨_, _, List.getElem?_eq_getElem hlt⟩
      obtain ⟨b0, o0, pa, pm, pc, rfl, hb0, c0, c1, hg⟩ := HA.out k (b, l) hbl
      have c0 : w.cell? ⟨b0, o0 + k * 2, none⟩ = some (.int .i64 b) := c0
      have hg : Arg 20 w pa pm pc l := hg
      have h20 := hg.len
      have HC := Lib.hid (fun W (h : Below w.heap.size w W) => show W.cell? ⟨b0, o0 + k * 2, none⟩ = some (.int .i64 b) ∧ W.cell? ⟨b0, o0 + k * 2 + 1, none⟩ = some (.slice pa pm pc) from ⟨(h.cell (p := ⟨b0, o0 + k * 2, none⟩) hb0).trans c0, (h.cell (p := ⟨b0, o0 + k * 2 + 1, none⟩) hb0).trans c1⟩)
      have s1 := sl_run 20 w pa pm pc l hg
      have s2 := sl_run2 20 w pa pm pc l hg
      have m1 : (if (20 : Int) < (pm : Int) then 20 else (pm : Int)) = (l.length : Int) := by have h : min (pm : Int) 20 = (l.length : Int) := hg.min; split <;> omega
      have SA := Lib.hid (fun X (h : Below w.heap.size w X) => arg_srcA hg X h)
      have B0 := Lib.hid hb
      have hws := hb.size
      have TS := Lib.hid (take_snoc hbl)
      have QQ := Lib.hid hq
      have OO := Lib.hid ho
      have PP := Lib.hid hp
      have WO := Lib.hid hwo
      have WP := Lib.hid hwp
      have hkl : Hid (ks.length = k ∧ wks.length = k) := Lib.hid ⟨by rw [hp.1, List.length_take]; omega, by rw [hwp.1, List.length_take]; omega⟩
      clear c0 c1 hg hb hq ho hp hwo hwp hbl S
      have B1 := Lib.hid (show Below w.heap.size w wr.drew from B0.out.trans ((bl_drew wr).mono hws))
      have B2 := Lib.hid (show Below w.heap.size w (wr.alloc (.cells #[] 3)).drew from B0.out.trans (show Below w.heap.size wr (wr.alloc (.cells #[] 3)).drew from ((bl_al (Below.refl _ wr) (.cells #[] 3)).drew).mono hws))
      go_upto_region 6 with fail
      go_cut [7] (fun v wx => Hid (NewL l wr v wx))
      case first =>
        go_region_held3 (fun w' => w'.cell? ⟨b0, o0 + k * 2 + 1, none⟩ = some (.slice pa pm pc)) (first | exact (HC.out _ B1.out).2 | exact (HC.out _ B2.out).2 | exact (HC.out _ B3.out).2)
          (first
            | (refine step_app (by rfl) _ _ (by rfl) (by rfl) wr.heap.size wr.heap.size l pa pc (by rfl) (by rfl) (by omega) (own0 wr).drew (by simp) (SA.out _ B2.out) ?_; intro g cap w2 ho2 hg2 hlt2; have hg3 := app_below (undrew_g hg2); have NL := Lib.hid (show NewL l wr _ w2 from ⟨g, cap, rfl, (own_of ho2 hg3).lst, hg3⟩); have B3 := Lib.hid (show Below w.heap.size w w2 from B0.out.trans (hg3.mono hws)); clear ho2 hg2 hlt2 hg3)
            | fail)
        all_goals go_wp2
        all_goals go_meet
        all_goals exact NL
      case rest =>
        rename World => w1
        obtain ⟨g, cap, rfl, nl, nb⟩ := hcut.out
        have NL := Lib.hid nl
        have NB := Lib.hid nb
        have hw1 := nb.size
        obtain ⟨wa, wc', hwv⟩ := row_sl WO.out
        subst hwv
        have WO1 := Lib.hid ((Fr.of (B := 0) (P := fun _ => False) nb).row WO.out (fun h => h))
        have B1w := Lib.hid (B0.out.trans (nb.mono hws))
        have SB := Lib.hid (fun X (h : Below w1.heap.size w1 X) => lst_srcA NL.out X h)
        clear nl nb hcut s1 s2 m1 SA B1 B2 WO
        have hw2 : w.heap.size ≤ w1.heap.size := by omega
        have B2 := Lib.hid (show Below w1.heap.size w1 (w1.alloc (.cells #[] 3)).drew from (bl_al (Below.refl _ w1) (.cells #[] 3)).drew)
        have d1 := HC.out w1 B1w.out
        have d2 := HC.out _ (B1w.out.trans (B2.out.mono hw2))
        go_upto_region 7 with fail
        go_cut [5] (fun v wx => Hid (NewR w.heap.size b l wks w1 v wx))
        case first =>
          go_region_held3 (fun w' => w'.cell? ⟨b0, o0 + k * 2, none⟩ = some (.int .i64 b)) (first | exact d1.1 | exact d2.1 | exact D3.1 | exact D4.1 | exact D5.1)
            (first
              | (refine step_app (by rfl) _ _ (by rfl) (by rfl) w1.heap.size w1.heap.size l (some ⟨g, 0, none⟩) cap (by rfl) (by rfl) (by omega) (own0 w1).drew (by simp) (SB.out _ B2.out) ?_; intro g3 cap3 w3 ho3 hg3 hlt3; have hb3 := app_below (undrew_g hg3); have L3 := Lib.hid (own_of ho3 hb3).lst; have O3 := Lib.hid ((Fr.of (B := 0) (P := fun _ => False) hb3).row WO1.out (fun h => h)); have B3 := Lib.hid (B1w.out.trans (hb3.mono hw2)); have D3 := HC.out w3 B3.out; have hw3 := B3.out.size; have D4 := HC.out (w3.alloc (.cells #[.int .i64 b, .slice (some ⟨g3, 0, none⟩) l.length cap3] 45)) (B3.out.trans ((bl_al (Below.refl _ w3) _).mono hw3)); have FB3 := Lib.hid hb3; clear ho3 hg3 hb3 hlt3)
              | (refine step_append_lies _ (by rfl) _ _ _ (by rfl) w.heap.size 45 i0 (.agg #[.int .i64 0, .slice none 0 0]) 2 32 Try.underlying22 hi hz0 hz1 hz2 rfl (by decide) _ wks.length _ (by rfl) (O3.out.alloc _) ⟨w3.heap.size, 0, none⟩ 1 1 [.int .i64 b, .slice (some ⟨g3, 0, none⟩) l.length cap3] (by rfl) rfl (rec_new _ _ _ _) (by simp [Value.oneCell']) (by decide) (by unfold maxLen; have := hkl.out.2; omega) (by have := hkl.out.2; omega) (by simp; omega) _ rfl ?_; intro g4 cap4 w4 ho4 hg4 _ _; have F4 := app_fr (B := w.heap.size) O3.out (Nat.le_refl _) hg4; have NR := Lib.hid (show NewR w.heap.size b l wks w1 _ w4 from ⟨_, enc_snoc rfl ho4, F4.lst L3.out (by decide), (Fr.of FB3.out).trans F4⟩); have D5 := HC.out w4 (F4.below B3.out hw3); clear ho4 hg4 F4)
              | fail)
          all_goals go_wp2
          all_goals go_meet
          all_goals exact NR
        case rest =>
          rename World => w2
          obtain ⟨p2, wo2, l2, f2⟩ := hcut.out
          have WO2 := Lib.hid wo2
          have L2 := Lib.hid l2
          have F2 := Lib.hid f2
          have hw3 := f2.size
          have B2w := Lib.hid (f2.below B1w.out hw2)
          have Q2 := Lib.hid (f2.blk (((NB.out.block _ (lt_hp QQ.out)).trans QQ.out)) (.inl (by decide)))
          have OO2 := Lib.hid (f2.row ((Fr.of (B := 0) (P := fun _ => False) NB.out).row OO.out (fun h => h)) (by decide))
          have NL2 := Lib.hid (f2.lst NL.out (by decide))
          have d3 := (HC.out w2 B2w.out).1
          have AD := Lib.hid (add_any (b := b) Q2.out OO2.out NL2.out (Nat.le_refl _) (by have := hkl.out.1; omega) (by omega))
          clear wo2 l2 f2 hcut d1 d2 B2 SB WO1 OO QQ Q2 OO2
          go_wp2_with fail
          refine AD.out.mono ?_; rintro e w5 ⟨v5, p5, rfl, hq5, ho5, hl5, hf5⟩
          have NL5 := hf5.lst NL2.out (by decide)
          have hgl := (lst_at NL.out).1
          have hgu := (lst_at NL.out).2.2.2.2.1
          have JK := Lib.hid (lst_at NL5).2.2.2.2.2
          have EN := Lib.hid (fun w6 (TW : Tw [g] w5 w6) => fill_end hws PP.out WP.out NB.out F2.out hf5 TW hgl hgu JK.out hq5 ho5 hl5 WO2.out L2.out TS.out h20 B2w.out)
          clear NL5 hgl hgu NL NB F2 NL2 hf5 hq5 ho5 hl5 WO2 L2 TS B2w PP WP d3 AD hws hw1 hw2 hw3 HC B0 B1w hkl
          go_wp2_with fail
          go_loopw [8] (fun i wx => ∃ j : Nat, i = .int .i64 j ∧ j ≤ l.length ∧ Hid (Junk g l.length wx) ∧ Hid (Tw [g] w5 wx)) (fun i _ => l.length - (intOf i).toNat)
          case atStart => exact ⟨0, rfl, by omega, JK, Lib.hid (Tw.refl _ _)⟩
          case round =>
            clear JK
            obtain ⟨j, rfl, hj, JK, TW⟩ := hrel
            by_cases hjl : j < l.length
            · have i3 : (j : Int) < (l.length : Int) := by omega
              have hwj : IntKind.i64.wrap ((j : Int) + 1) = (j : Int) + 1 := IntWalk.i64_in _ (by omega)
              obtain ⟨z, hz⟩ := JK.out.2 j hjl
              have hf := JK.out.fz j
              have JS := Lib.hid (fun y => JK.out.st j y)
              have TS := Lib.hid (fun y => TW.out.st g (.inl (by simp)) j (.int .i64 y))
              clear JK TW EN
              go_wp2
              go_roundw
              case rel => exact ⟨j + 1, by simp, by omega, JS.out _, TS.out _⟩
              case measure => simp [intOf]; omega
            · have i3 : ¬ (j : Int) < (l.length : Int) := by omega
              have SE := Lib.hid (EN.out _ TW.out)
              clear EN JK TW
              go_wp2
              go_roundw
              case rel => exact ⟨k + 1, by omega, by go_num, SE⟩
              case measure => simp [intOf]; omega
    · obtain rfl : k = rs.length := by omega
      rcases HN.out with ⟨h1, h2⟩ | ⟨h1, h2⟩
      · have i1 : ¬ (rs.length : Int) < (n : Int) := by omega
        go_wp2
        refine bodyPost_ret (by simp [results, Try.results8, go_sem]; rfl) rfl ?_
        exact ⟨_, rfl, S.out⟩
      · have i1 : (rs.length : Int) < (n : Int) := by omega
        have i2 : ¬ (rs.length : Int) < 40 := by omega
        go_wp2
        refine bodyPost_ret (by simp [results, Try.results8, go_sem]; rfl) rfl ?_
        exact ⟨_, rfl, S.out⟩
end Go.Proofs.Ytgldgilhegdpjaa

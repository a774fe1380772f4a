/-
  assign: the reference's Answer.
-/
import Derived.Test.YtlhpiikpmmlpeaaDoorBk
import Derived.Test.YtlhpiikpmmlpeaaDoorAn
import Derived.Test.YtlhpiikpmmlpeaaDoorBs
namespace Go.Proofs.YtlhpiikpmmlpeaaDoor.kn
open Go.RowKit
set_option linter.unusedVariables false
set_option linter.unusedSimpArgs false
set_option maxRecDepth 100000 in
set_option maxHeartbeats 8000000 in
theorem rans_any (K C : Int) (n : Nat) (h1n : 1 ≤ n) (hn : n ≤ 24) (p : List Int) (hp : p.length ≤ 1000) (pb po pc : Nat) (va vb' vc : Value) (w : World) (hI : Ints w (some ⟨pb, po, none⟩) p) (hpb : pb < w.heap.size) (hpc : p.length ≤ pc ∧ pc ≤ 9223372036854775807) :
    Calls Tryd.prog 25 #[.agg #[.int .i64 K, .int .i64 n, .int .i64 C, va, vb', vc], .slice (some ⟨pb, po, none⟩) p.length pc] w (AnP n p w) := by
  obtain ⟨i0, hi, hz0, hz1, hz2⟩ := info_parts info3
  have b0 : Below w.heap.size w (w.alloc (.cells #[.int .i64 K, .int .i64 n, .int .i64 C, va, vb', vc] 25)) := bl_al (Below.refl _ _) _
  have Q0 := Lib.hid (heap_alloc_new w (.cells #[.int .i64 K, .int .i64 n, .int .i64 C, va, vb', vc] 25))
  have HFr := Lib.hid (rfree_any K C n hn p hp (some ⟨pb, po, none⟩) pc va vb' vc _ (hI.keep b0))
  have B0 := Lib.hid b0
  have HN : Hid (∀ w', ¬ (Pre n p ∧ p.length = n) → Below w.heap.size w w' → AnP n p w (.returned (.tuple #[.slice none 0 0, .int .i64 1])) w') := Lib.hid fun w' q hb => .inl ⟨q, rfl, hb⟩
  have HY : Hid (∀ g cap w', Pre n p → p.length = n → od.Own w.heap.size g p.length cap p w w' → AnP n p w (.returned (.tuple #[.slice (some ⟨g, 0, none⟩) p.length cap, .int .i64 0])) w') := Lib.hid fun g cap w' h1 h2 h3 => .inr ⟨h1, h2, g, cap, rfl, h3⟩
  have HC : Hid (∀ X, Below w.heap.size w X → ∀ j u, (p.map (Value.int .i64))[j]? = some u → X.cell? ((⟨pb, po, none⟩ : Addr).add j) = some u) := Lib.hid fun X hb => cells_src (fun j hj => by
    obtain ⟨b, o, e, _, m⟩ := (hI.keep hb) j hj
    injection e with e
    injection e with e1 e2
    subst e1 e2
    rw [m]
    unfold nt
    rfl)
  have HOw : Hid (∀ (X w1 : World) (g cap : Nat), Below w.heap.size w X → w1.ownsRow X.heap.size 3 1 (.slice (some ⟨g, 0, none⟩) p.length cap) p.length (p.map (Value.int .i64)) → Below X.heap.size X w1 → od.Own w.heap.size g p.length cap p w w1) := Lib.hid fun X w1 g cap hb h1 h2 => own_low (od.own_of h1 h2) hb.size (bl_tr hb h2)
  clear b0 hI
  obtain ⟨l, hl⟩ : ∃ l, l = p.length := ⟨_, rfl⟩
  have HL := Lib.hid hl
  have HPl := Lib.hid (fun (q : Pre n p) => pre_len q)
  rw [← hl] at HFr HY HN HOw HPl hpc ⊢
  clear hl hp
  obtain ⟨c0, c1, c2, c3, c4, c5⟩ := box6 Q0.out
  by_cases hP : Pre n p
  rotate_left
  · have HP := Lib.hid hP
    have HG := Lib.hid (fun w' hb => HN.out w' (fun q => hP q.1) hb)
    clear hP HN HY
    generalize AnP n p w = G at *
    go_enter Tryd.func25, Tryd.ntmps25
    go_wp2_with fail
    refine HFr.out.mono ?_; rintro e w1 q
    rcases q with ⟨_, rfl, hb1⟩ | ⟨q, _⟩
    rotate_left
    · exact absurd q HP.out
    have B1 := Lib.hid (bl_tr B0.out hb1)
    clear hb1
    go_wp2
    first
      | exact HG.out _ B1.out
      | (go_ret; exact HG.out _ B1.out)
  · have HP := Lib.hid hP
    by_cases hln : l = n
    · have HG := Lib.hid (fun g cap w' h => HY.out g cap w' hP hln h)
      clear hP HN HY
      generalize AnP n p w = G at *
      subst hln
      have q1 : ((l : Int) != (l : Int)) = false := by simp
      go_enter Tryd.func25, Tryd.ntmps25
      go_wp2_with fail
      refine HFr.out.mono ?_; rintro e w1 q
      rcases q with ⟨q, _⟩ | ⟨_, a, cap, rfl, hO, hb1⟩
      · exact absurd HP.out q
      have B1 := Lib.hid (bl_tr B0.out hb1)
      clear c0 c1 c2 c3 c4 c5
      obtain ⟨c0, c1, c2, c3, c4, c5⟩ := box6 ((hb1.block _ (lt_hp Q0.out)).trans Q0.out)
      have OW := Lib.hid (own0 w1)
      have HCs := Lib.hid (HC.out (w1.alloc (.cells #[] 3)) (bl_al B1.out _))
      clear hb1 hO
      go_wp2_with (at_builtin; refine wpList_append_own _ rfl _ _ 22 rfl w1.heap.size 3 i0 (.int .i64 0) 1 8 Tryd.underlying22 hi hz0 hz1 hz2 rfl (by decide) _ _ _ rfl OW.out ⟨pb, po, none⟩ _ pc (p.map (Value.int .i64)) rfl (by simp [HL.out]) HCs.out (by simp [Value.oneCell']) (by unfold maxLen; omega) (by omega) (by simp) ?_)
      intro v' w2 hown hgrow hne
      obtain ⟨g, cap2, rfl⟩ := own_form hown hne
      have HE := Lib.hid (HG.out g _ w2 (HOw.out w1 w2 g _ B1.out (by simpa using hown) ((bl_al (Below.refl _ w1) _).grown hgrow (by simp) (fun j hj => by simp [Value.ownBlock] at hj; omega))))
      clear hown hgrow hne
      go_wp2
      first
        | exact HE.out
        | (go_ret2; exact HE.out)
    · have HG := Lib.hid (fun w' hb => HN.out w' (fun q => hln q.2) hb)
      have q1 : ((l : Int) != (n : Int)) = true := by simp; omega
      clear hP HN HY
      generalize AnP n p w = G at *
      go_enter Tryd.func25, Tryd.ntmps25
      go_wp2_with fail
      refine HFr.out.mono ?_; rintro e w1 q
      rcases q with ⟨q, _⟩ | ⟨_, a, cap, rfl, hO, hb1⟩
      · exact absurd HP.out q
      have B1 := Lib.hid (bl_tr B0.out hb1)
      clear c0 c1 c2 c3 c4 c5
      obtain ⟨c0, c1, c2, c3, c4, c5⟩ := box6 ((hb1.block _ (lt_hp Q0.out)).trans Q0.out)
      clear hb1 hO
      go_wp2
      first
        | exact HG.out _ B1.out
        | (go_ret; exact HG.out _ B1.out)
end Go.Proofs.YtlhpiikpmmlpeaaDoor.kn

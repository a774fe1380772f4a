/-
  knap: the reference's Best, of every beginning.
-/
import Derived.Test.YteoionlnnjcggaaBe
namespace Go.Proofs.Yteoionlnnjcggaa.kn
open Go.RowKit
set_option linter.unusedVariables false
theorem bv_next (C : Int) (T W V pl : List Int) (x : Int) : bv C T W V (pl ++ [x]) = bst W V (T.length - (pl.length + 1)) (pl.length + 1) (rm C W pl pl.length - (if x = 0 then 0 else nt W pl.length)) (lost V pl pl.length + (if x = 0 then nt V pl.length else 0)) := by
  unfold bv
  rw [List.length_append, List.length_singleton, rm_next, lost_next]
theorem bv_pos {C : Int} {T W V pl : List Int} (ok : KnOk C T W V) (hs : Srt W V 0 T.length) (h : LeftOk C W pl) : 0 ≤ bv C T W V pl := Int.le_trans (bdv_pos ok h) (bdv_best ok hs h)
theorem bk_one (f : Nat → Int) : bk f 1 = f 0 := by
  show (if (-1 : Int) < 0 ∨ f 0 < -1 then f 0 else -1) = f 0
  rw [if_pos (.inl (by omega))]
theorem bk_two (f : Nat → Int) (h : 0 ≤ f 0) : bk f 2 = min (f 0) (f 1) := by
  show (if bk f 1 < 0 ∨ f 1 < bk f 1 then f 1 else bk f 1) = min (f 0) (f 1)
  rw [bk_one]
  split <;> omega
theorem src_ls {a : Option Addr} {c : Nat} {L : List Int} {w : World} (h : Ls (.slice a L.length c) L w) (hn : L ≠ []) : SrcA w a c L := (app_run_src h).elim id (fun e => absurd e hn)
set_option maxHeartbeats 4000000 in
theorem best_any (N C : Int) (wl vl : List Int) (cl : List (List Int)) (T : List Int) (wa va ca : Option Addr) (wc vc cc : Nat) (hz : chk 1 N C wl vl cl = 0) (hN : (wl.length : Int) = N) (lv : vl.length = wl.length) (n2 : wl.length ≤ 64)
    (io : ∀ j, j < wl.length → (0 ≤ nt wl j ∧ nt wl j ≤ 2147483647) ∧ (0 ≤ nt vl j ∧ nt vl j ≤ 2147483647)) (ho : Ordd wl vl T) (ok : KnOk C T (pick wl T) (pick vl T)) : ∀ (d : Nat) (pl : List Int) (v : Value) (w : World), pl.length + d = T.length → Prob w wl vl cl wa va ca → LeftOk C (pick wl T) pl → Ls v pl w → (∀ pa pc, v = .slice pa pl.length pc → SrcA w pa pc pl) →
    Calls Try.prog 24 #[.agg #[.int .i64 1, .int .i64 N, .int .i64 C, .slice wa wl.length wc, .slice va vl.length vc, .slice ca cl.length cc], v] w fun e w' => e = .returned (.int .i64 (bv C T (pick wl T) (pick vl T) pl)) ∧ Below w.heap.size w w'
  | 0, pl, v, w, hd, hP, lo, hp, _ => best_whole N C wl vl cl T wa va ca wc vc cc hz hN lv n2 io ho ok pl v w hP lo (by omega) hp
  | d + 1, pl, v, w, hd, hP, lo, hp, hs => by
    have TL : T.length = wl.length := ho.is_.1
    have srt : Srt (pick wl T) (pick vl T) 0 T.length := by rw [TL]; exact srt_of ho (fun j hj => ⟨(io j hj).1.1, (io j hj).2.1⟩)
    have lw : pl.length < (pick wl T).length := by rw [pick_len]; omega
    have KD := fun (Y : World) (hb : Below w.heap.size w Y) => rkids_any 1 N C wl vl cl T pl wa va ca wc vc cc v Y (hP.1.keep hb) (hP.2.1.keep hb) hN lv n2 io ho ok (hp.up hb) (by omega)
    have IH := fun (x : Int) (hx : x = 0 ∨ (x = 1 ∧ nt (pick wl T) pl.length ≤ rm C (pick wl T) pl pl.length)) (u : Value) (Y : World) (hu : Ls u (pl ++ [x]) Y) (hb : Below w.heap.size w Y) =>
      best_any N C wl vl cl T wa va ca wc vc cc hz hN lv n2 io ho ok d (pl ++ [x]) u Y (by simp; omega) ⟨hP.1.keep hb, hP.2.1.keep hb, hP.2.2.1.keep hb, hP.2.2.2⟩ (left_app lo lw hx) hu (fun pa pc e => by subst e; exact src_ls hu (by simp))
    have e0 := bv_next C T (pick wl T) (pick vl T) pl 0
    have e1 := bv_next C T (pick wl T) (pick vl T) pl 1
    have p0 := bv_pos ok srt (left_app lo lw (.inl rfl))
    have ev : bv C T (pick wl T) (pick vl T) pl = bst (pick wl T) (pick vl T) ((T.length - (pl.length + 1)) + 1) pl.length (rm C (pick wl T) pl pl.length) (lost (pick vl T) pl pl.length) := by
      unfold bv; rw [show T.length - pl.length = (T.length - (pl.length + 1)) + 1 by omega]
    rw [if_pos rfl, if_pos rfl] at e0
    rw [if_neg (by decide), if_neg (by decide)] at e1
    by_cases hf : nt (pick wl T) pl.length ≤ rm C (pick wl T) pl pl.length
    · have p1 := bv_pos ok srt (left_app lo lw (.inr ⟨rfl, hf⟩))
      refine (best_loop N C wl vl cl T wa va ca wc vc cc hz hN lv n2 io ho ok pl [1, 0] v w hP (by omega) (by simp) hp hs (fun Y hb => (KD Y hb).mono fun e w' q => ?_) (fun k u Y hk hu hb => ?_)).mono fun e w' q => ⟨q.1.trans ?_, q.2⟩
      · obtain ⟨l, er, kv, u, rfl, ol, hb⟩ := q
        obtain ⟨rfl, rfl⟩ := kv.fit lo (by omega) hf
        exact ⟨u, rfl, ol.ls, hb⟩
      · rcases k with _ | _ | k
        · exact IH 1 (.inr ⟨rfl, hf⟩) u Y hu hb
        · exact IH 0 (.inl rfl) u Y hu hb
        · exact absurd hk (by simp)
      · refine congrArg (fun z => Ending.returned (.int .i64 z)) ?_
        show bk (fun k => bv C T (pick wl T) (pick vl T) (pl ++ [nt [1, 0] k])) 2 = _
        rw [bk_two _ (show 0 ≤ bv C T (pick wl T) (pick vl T) (pl ++ [1]) from p1)]
        show min (bv C T (pick wl T) (pick vl T) (pl ++ [1])) (bv C T (pick wl T) (pick vl T) (pl ++ [0])) = _
        rw [ev, bst, if_pos hf, e0, e1, Int.sub_zero, Int.add_zero]
    · refine (best_loop N C wl vl cl T wa va ca wc vc cc hz hN lv n2 io ho ok pl [0] v w hP (by omega) (by simp) hp hs (fun Y hb => (KD Y hb).mono fun e w' q => ?_) (fun k u Y hk hu hb => ?_)).mono fun e w' q => ⟨q.1.trans ?_, q.2⟩
      · obtain ⟨l, er, kv, u, rfl, ol, hb⟩ := q
        obtain ⟨rfl, rfl⟩ := kv.big lo (by omega) (by omega)
        exact ⟨u, rfl, ol.ls, hb⟩
      · rcases k with _ | k
        · exact IH 0 (.inl rfl) u Y hu hb
        · exact absurd hk (by simp)
      · refine congrArg (fun z => Ending.returned (.int .i64 z)) ?_
        show bk (fun k => bv C T (pick wl T) (pick vl T) (pl ++ [nt [0] k])) 1 = _
        rw [bk_one]
        show bv C T (pick wl T) (pick vl T) (pl ++ [0]) = _
        rw [ev, bst, if_neg hf, e0, Int.sub_zero]
end Go.Proofs.Yteoionlnnjcggaa.kn

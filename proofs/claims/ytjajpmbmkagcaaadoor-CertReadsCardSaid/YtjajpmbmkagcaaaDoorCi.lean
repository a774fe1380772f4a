/-
  cert.Read, for every text.
-/
import Derived.Test.YtjajpmbmkagcaaaDoorCh
import Derived.Test.YtjajpmbmkagcaaaDoorShelf
namespace Go.Proofs.YtjajpmbmkagcaaaDoor
open Go.RowKit
set_option linter.unusedVariables false
theorem clone_any (t : ByteArray) (w : World) (ht : t.size ≤ 2000000) : Calls Tryd.prog 38 #[.string t] w fun e w' => e = .returned (.string t) ∧ Below w.heap.size w w' := by
  have C := Lib.hid (Tryd.stringslite_Clone t w (by omega))
  go_enter Tryd.func38, Tryd.ntmps38
  go_wp2_with fail
  refine C.out.mono ?_; rintro e w1 ⟨rfl, hb⟩
  have HB := Lib.hid hb
  clear C hb
  go_wp2
  go_ret
  exact ⟨rfl, HB.out⟩
/-- what Read answers -/
def RdP (s : ByteArray) (w : World) (x : Ending) (w' : World) : Prop := ∃ V v T L, x = .returned (.tuple #[.agg #[.int .i64 V, v, .string T], .int .i64 (if (crE s).2 = 0 then 0 else ((crE s).1 : Int)), .int .i64 (crE s).2]) ∧ Below w.heap.size w w' ∧ Ol w.heap.size v L w' ∧
  ((crE s).2 = 0 → V = nmv s (cr0 s).1 ∧ L = elv s (crn s) ∧ T = treV s (cr5 s)) ∧ ((crE s).2 ≠ 0 → V = 0 ∧ v = .slice none 0 0 ∧ L = [] ∧ T = ⟨#[]⟩)
theorem Ol.mono {B C : Nat} {v : Value} {L : List Int} {w : World} (h : Ol B v L w) (hc : C ≤ B) : Ol C v L w := by
  refine ⟨h.1, ?_⟩
  rcases h.2 with hn | ⟨g, cap, cur, e, hg, r⟩
  · exact .inl hn
  · exact .inr ⟨g, cap, cur, e, Nat.le_trans hc hg, r⟩
set_option maxRecDepth 100000 in
set_option maxHeartbeats 8000000 in
theorem read_any (s : ByteArray) (hs : s.size ≤ 2000000) (w : World) : Calls Tryd.prog 14 #[.string s] w (RdP s w) := by
  have al1 := bl_al (Below.refl _ w) C0
  have al2 := bl_al al1 (.cells #[.string s, .int .i64 0, .int .i64 0] 51)
  have e1 := heap_alloc_new (w.alloc C0) (.cells #[.string s, .int .i64 0, .int .i64 0] 51)
  rw [World.size_alloc] at e1
  have W1 := Lib.hid al2
  have RC := Lib.hid (show CB w.heap.size 0 (.slice none 0 0) ⟨#[]⟩ ((w.alloc C0).alloc (.cells #[.string s, .int .i64 0, .int .i64 0] 51)) from (heap_alloc_old (w.alloc C0) _ (by simp)).trans (heap_alloc_new w C0))
  have CA := Lib.hid (cert_any clone_any (p := w.heap.size + 1) (w := (w.alloc C0).alloc (.cells #[.string s, .int .i64 0, .int .i64 0] 51)) e1 hs)
  clear al1 al2 e1
  go_enter Tryd.func14, Tryd.ntmps14
  go_wp2_with fail
  refine CA.out.mono ?_; rintro e w2 ⟨V, v, T, L, rfl, hb, ht, ho, hn, hok⟩
  obtain ⟨va, vc, rfl⟩ := ho.form
  have hsz : ((w.alloc C0).alloc (.cells #[.string s, .int .i64 0, .int .i64 0] 51)).heap.size = w.heap.size + 2 := by rw [World.size_alloc, World.size_alloc]
  rw [hsz] at ho
  have al := bl_al (Below.refl _ w2) (.cells #[.int .i64 V, .slice va L.length vc, .string T] 26)
  have nw := heap_alloc_new w2 (.cells #[.int .i64 V, .slice va L.length vc, .string T] 26)
  have W3 := Lib.hid (show Below w.heap.size w (w2.alloc (.cells #[.int .i64 V, .slice va L.length vc, .string T] 26)) from (Tw.below W1.out ht (fun i hi => by simp at hi; omega) (by rw [hsz]; omega)).trans (al.mono (by have := ht.size; rw [hsz] at this; omega)))
  have RC := Lib.hid ((RC.out.keep ht (by simp)).keep (S := []) (Tw.of al) (by simp))
  have RR := Lib.hid (hb.up al)
  have OL := Lib.hid (ho.keep (S := []) (Tw.of al) (by simp))
  have CC := Lib.hid (show CB w2.heap.size V (.slice va L.length vc) T (w2.alloc (.cells #[.int .i64 V, .slice va L.length vc, .string T] 26)) from nw)
  have HO := Lib.hid hok
  clear al nw hb ht ho hok W1 CA hn hsz
  go_upto_region 3 with fail
  generalize (w2.alloc (.cells #[.int .i64 V, .slice va L.length vc, .string T] 26)) = X at *
  have UX := Lib.hid (fun (V v T L) w' (a : Below w.heap.size w w') (b : Ol (w.heap.size + 2) v L w') (c : (crE s).2 = 0 → V = nmv s (cr0 s).1 ∧ L = elv s (crn s) ∧ T = treV s (cr5 s)) (d : (crE s).2 ≠ 0 → V = 0 ∧ v = .slice none 0 0 ∧ L = [] ∧ T = ⟨#[]⟩) => show RdP s w (.returned (.tuple #[.agg #[.int .i64 V, v, .string T], .int .i64 (if (crE s).2 = 0 then 0 else ((crE s).1 : Int)), .int .i64 (crE s).2])) w' from ⟨V, v, T, L, rfl, a, b.mono (by omega), c, d⟩)
  generalize crE s = x at *
  obtain ⟨a, e⟩ := x
  obtain ⟨k0, k1, k2, _⟩ := RR.out.cells
  obtain ⟨r0, r1, r2, rf⟩ := RC.out.cells
  obtain ⟨q0, q1, q2, _⟩ := CC.out.cells
  have rf0 := rf 0
  have rf1 := rf 1
  have rf2 := rf 2
  clear rf
  by_cases he : e = 0
  · have b1 : (e != 0) = false := by simp [he]
    have FC := Lib.hid (((RC.out.s0 V).s1 (.slice va L.length vc)).s2 T)
    have st := (((Tw.refl [w.heap.size] X).st w.heap.size (.inl (by simp)) 0 (.int .i64 V)).st w.heap.size (.inl (by simp)) 1 (.slice va L.length vc)).st w.heap.size (.inl (by simp)) 2 (.string T)
    have OF := Lib.hid (OL.out.keep st (fun i hi => by simp at hi; subst hi; exact OL.out.far RC.out (by decide)))
    have WF := Lib.hid (Tw.below W3.out st (fun i hi => by simp at hi; omega) W3.out.size)
    have UE := Lib.hid (UX.out V (.slice va L.length vc) T L _ WF.out OF.out HO.out (fun h => absurd he h))
    have HE := Lib.hid he
    clear st RC OL CC RR UX he
    go_wp2
    obtain ⟨d0, d1, d2, _⟩ := FC.out.cells
    refine bodyPost_ret (by simp [results, Tryd.results14, go_sem, d0, d1, d2]; rfl) rfl ?_
    have U := UE.out
    rw [if_pos HE.out, HE.out] at U
    exact U
  · have b1 : (e != 0) = true := by simpa using he
    have st := (((Tw.refl [w.heap.size] X).st w.heap.size (.inl (by simp)) 0 (.int .i64 0)).st w.heap.size (.inl (by simp)) 1 (.slice none 0 0)).st w.heap.size (.inl (by simp)) 2 (.string ⟨#[]⟩)
    have OF := Lib.hid (ol_nil (w.heap.size + 2) (((X.setCell ⟨w.heap.size, 0, none⟩ (.int .i64 0)).setCell ⟨w.heap.size, 1, none⟩ (.slice none 0 0)).setCell ⟨w.heap.size, 2, none⟩ (.string ⟨#[]⟩)).drew)
    have FC := Lib.hid ((((RC.out.s0 0).s1 (.slice none 0 0)).s2 ⟨#[]⟩).keep (S := []) (Tw.of (bl_drew _)) (by simp))
    have WF := Lib.hid ((Tw.below W3.out st (fun i hi => by simp at hi; omega) W3.out.size).trans ((bl_drew _).mono (Nat.le_trans W3.out.size st.size)))
    have UE := Lib.hid (UX.out 0 (.slice none 0 0) ⟨#[]⟩ [] _ WF.out OF.out (fun h => absurd h he) (fun _ => ⟨rfl, rfl, rfl, rfl⟩))
    have HE := Lib.hid he
    clear st OL CC RR UX he RC
    go_upto_region 4 with fail
    go_region_with (fail)
    all_goals
      go_wp2
      obtain ⟨d0, d1, d2, _⟩ := FC.out.cells
      refine bodyPost_ret (by simp [results, Tryd.results14, go_sem, d0, d1, d2]; rfl) rfl ?_
      have U := UE.out
      rw [if_neg HE.out] at U
      exact U
end Go.Proofs.YtjajpmbmkagcaaaDoor

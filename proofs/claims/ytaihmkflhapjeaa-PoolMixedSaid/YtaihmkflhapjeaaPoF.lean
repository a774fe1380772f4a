/-
  What Shared tells, of a stack that the cells tell.
-/
import Derived.Test.YtaihmkflhapjeaaPoE
namespace Go.Proofs.Ytaihmkflhapjeaa
open Go.RowKit Go.MuLone
set_option linter.unusedVariables false
/-- the slots on the stack, the top first: x is the one on top, as a cell tells it -/
def Stk (l : List Int) (base n : Nat) : List Nat → Int → Prop
  | [], x => x < 0 ∨ (n : Int) ≤ x
  | m :: st, x => x = m ∧ m < n ∧ Stk l base n st (nth l (base + 1 + m))
def iv (m : Nat) : Value := .int .i64 (m : Int)
def slen : Value → Nat
  | .slice _ n _ => n
  | _ => 0
theorem grown_tw {w w' : World} {row : Option Nat} (h : w.grownBy w' row) : Tw row.toList w w' := ⟨h.os, h.tape, h.output, h.size, fun i hi hn => h.block i hi (fun e => hn (by rw [← e]; simp))⟩
theorem own_sl {w : World} {B n : Nat} {v : Value} {xs : List Value} (h : w.ownsRow B 3 1 v n xs) : ∃ x c, v = .slice x n c := by
  rcases h.2 with ⟨h', hn⟩ | ⟨g, cap, cur, hv, _⟩
  · exact ⟨_, _, by rw [h']; first | rw [hn.1] | rw [hn] | simp_all⟩
  · exact ⟨_, _, hv⟩
theorem cell_one (w : World) (x : Int) : ∀ j u, ([Value.int .i64 x] : List Value)[j]? = some u → (w.alloc (.cells #[.int .i64 x] 3)).cell? ((⟨w.heap.size, 0, none⟩ : Addr).add j) = some u := fun j u hj => by
  cases j with
  | zero =>
    simp at hj
    subst hj
    exact (cell_of_row _ _ 0 _ 3 _ (hal_new w (.cells #[.int .i64 x] 3 (0, 0)))).trans rfl
  | succ j => simp at hj
theorem own_up {w w1 : World} {B n : Nat} {v : Value} {xs : List Value} {S : List Nat} (h : w.ownsRow B 3 1 v n xs) (k : Tw S w w1) (hS : ∀ i, i ∈ S → i < B) : w1.ownsRow B 3 1 v n xs := by
  obtain ⟨a1, a2⟩ := h
  refine ⟨a1, ?_⟩
  rcases a2 with hn | ⟨g', cap', cur', hv, hg', hh, r⟩
  · exact .inl hn
  · exact .inr ⟨g', cap', cur', hv, hg', blk_tw hh k (fun hm => by have := hS g' hm; omega), r⟩
section
variable {A : Ad} {nv : Nat → Value} {nb : Nat → Int} {hd : Nat → Bool} {ow : Nat → Value} {l : List Int} {s : Int} {w w1 : World}
/-- what Shared answers -/
def ShOf (A : Ad) (nv : Nat → Value) (nb : Nat → Int) (hd : Nat → Bool) (ow : Nat → Value) (l : List Int) (s : Int) (st : List Nat) (w : World) (e : Ending) (w' : World) : Prop := ∃ v, e = .returned v ∧ w'.ownsRow w.heap.size 3 1 v st.length (st.map iv) ∧ Po A nv nb hd ow l s w' ∧ Tw [A.g, A.b] w w'
theorem shared_nil (w : World) : Calls Try.prog 15 #[.pointer none] w fun e w' => e = .returned (.slice none 0 0) ∧ w = w' := by
  go_enter Try.func15, Try.ntmps15
  go_wp2
  go_ret
  exact ⟨rfl, rfl⟩
theorem own_nil' (x : Int) (w : World) : Calls Try.prog 14 #[.pointer none, .int .i64 x] w fun e w' => e = .returned (.slice none 0 0) ∧ w = w' := by
  go_enter Try.func14, Try.ntmps14
  go_wp2_with fail
  refine (emp_nil x _).mono ?_; rintro e w1 ⟨rfl, rfl⟩
  go_wp2
  go_ret
  exact ⟨rfl, rfl⟩
set_option maxHeartbeats 16000000 in
theorem shared_any (T : Int) (st : List Nat) (hT : nth l A.base = T) (t0 : 0 ≤ T) (t1 : T ≤ 4611686018427387903) (hst : Stk l A.base A.n st (tpl T)) (hlen : st.length ≤ A.n) (h : Po A nv nb hd ow l s w) :
    Calls Try.prog 15 #[.pointer (some ⟨A.p, 0, none⟩)] w (ShOf A nv nb hd ow l s st w) := by
  obtain ⟨i0, hi, hz0, hz1, hz2⟩ := info_parts info3
  obtain ⟨q0, q1, q2, q3, q4⟩ := h.cells
  have hl := h.len
  have hl2 := h.len2
  have n2 := h.n2
  have UN : Hid (∀ W, Calls Try.prog 36 #[.int .i64 T] W fun e w' => e = .returned (.tuple #[.int .i64 (T / 4294967296 % 1073741824), .int .i64 (tpl T)]) ∧ W = w') := Lib.hid (fun W => unpack_any T t0 t1 W)
  have PK := Lib.hid (fun W (hW : Po A nv nb hd ow l s W) => peekP A.base A.base rfl (by omega) hW)
  rw [hT] at PK
  have LT := Lib.hid h.lt
  have PO := Lib.hid h.dr
  have TW := Lib.hid (Tw.refl [A.g, A.b] w).dr
  have HST := Lib.hid hst
  clear h q2 q3 q4 hT hst t0 t1
  generalize tpl T = P at *
  generalize T / 4294967296 % 1073741824 = V at *
  go_enter Try.func15, Try.ntmps15
  go_wp2_with fail
  go_region_held3 (fun w' => w'.cell? ⟨A.p, 0, none⟩ = some (.pointer (some ⟨A.g, 0, none⟩)) ∧ w'.cell? ⟨A.p, 1, none⟩ = some (.int .i64 A.base)) (first | exact ⟨q0, q1⟩)
    (first
      | (go_at_call 37; (with_reducible refine (PK.out _ PO.out).mono ?_); rintro e w5 ⟨rfl, f1, f2⟩; have P2 := Lib.hid f1; have T2 := Lib.hid (TW.out.trans f2); obtain ⟨q0, q1, q2, q3, q4⟩ := f1.cells; clear f1 f2 q2 q3 q4)
      | (go_at_call 36; (with_reducible refine (UN.out _).mono ?_); rintro e w6 ⟨rfl, rfl⟩))
  all_goals
    clear UN PK PO TW q0 q1
    have T2 := Lib.hid (show Tw [A.g, A.b] w w5 from ⟨T2.out.os, T2.out.tape, T2.out.output, T2.out.size, T2.out.block⟩)
    have O0 : Hid (w5.ownsRow w.heap.size 3 1 (.slice none 0 0) 0 []) := ⟨rfl, .inl ⟨rfl, rfl⟩⟩
    go_wp2_with fail
    go_loopw [3, 5] (fun v i wr => ∃ (k : Nat) (x : Int) (xa : Option Addr) (xc : Nat), v = .slice xa k xc ∧ i = .int .i64 x ∧ k ≤ st.length ∧ Hid (Stk l A.base A.n (st.drop k) x) ∧ Hid (wr.ownsRow w.heap.size 3 1 (.slice xa k xc) k ((st.take k).map iv)) ∧ Hid (Po A nv nb hd ow l s wr) ∧ Hid (Tw [A.g, A.b] w wr)) (fun v _ _ => 5000 - slen v)
    case atStart => exact ⟨0, P, none, 0, rfl, rfl, by omega, by simpa using HST, by simpa using O0, P2, T2⟩
    case round =>
      clear P2 T2 O0 HST
      obtain ⟨k, x, xa, xc, rfl, rfl, hk, HS, OW, PO, TW⟩ := hrel
      by_cases hlt : k < st.length
      · have hdr : st.drop k = st[k] :: st.drop (k + 1) := List.drop_eq_getElem_cons hlt
        have hst := HS.out
        rw [hdr] at hst
        obtain ⟨hx, hm, hst2⟩ := hst
        have HT : Hid ((st.take (k + 1)).map iv = (st.take k).map iv ++ [iv st[k]]) := Lib.hid (by rw [List.take_succ_eq_append_getElem hlt, List.map_append]; rfl)
        generalize st[k] = m at *
        subst hx
        have i1 : (k : Int) < (A.n : Int) := by omega
        have H1 := Lib.hid (fun W (hW : Po A nv nb hd ow l s W) => phas_in (m : Int) A.n (by omega) (by omega) _ W (slots_any _ _ _ _ _ _ _ _ W hW.box))
        have H2 := Lib.hid (fun W (hW : Po A nv nb hd ow l s W) => slots_any _ _ _ _ _ _ _ _ W hW.box)
        have LK := Lib.hid (fun W (hW : Po A nv nb hd ow l s W) => link_any (m : Int) _ _ _ _ _ _ _ _ W hW.box (by omega) (by omega) (by omega) (by omega))
        have PK := Lib.hid (fun W (hW : Po A nv nb hd ow l s W) => peekP (A.base + 1 + m) ((A.base : Int) + 1 + m) (by omega) (by omega) hW)
        generalize nth l (A.base + 1 + m) = y at *
        generalize (A.base : Int) + 1 + (m : Int) = ix at *
        have HS2 := Lib.hid hst2
        clear hst2 hdr HS
        go_wp2_with fail
        refine (H1.out _ PO.out).mono ?_; rintro e w6 ⟨rfl, rfl⟩
        clear H1
        go_wp2_with fail
        refine (H2.out _ PO.out).mono ?_; rintro e w6 ⟨rfl, rfl⟩
        clear H2
        have hal := bl_al (Below.refl _ wr) (.cells #[.int .i64 m] 3)
        have OW2 := Lib.hid (own_up OW.out (Tw.of (S := []) hal) (by simp))
        have PO2 := Lib.hid (PO.out.up hal)
        have TW2 := Lib.hid (TW.out.trans (Tw.of (S := [A.g, A.b]) hal))
        have hnew := Lib.hid (cell_one wr (m : Int))
        have hbs := Lib.hid (show w.heap.size ≤ (wr.alloc (.cells #[.int .i64 m] 3)).heap.size by have := TW2.out.size; exact this)
        have hml : k + 1 ≤ maxLen := by unfold maxLen; omega
        have hby8 : (k + 1) * 8 ≤ 140737488355328 := by omega
        clear hal
        go_wp2_with (at_builtin; refine wpList_append_own _ rfl _ _ 36 rfl w.heap.size 3 i0 (.int .i64 0) 1 8 Try.underlying36 hi hz0 hz1 hz2 rfl (by decide) _ _ _ rfl OW2.out ⟨wr.heap.size, 0, none⟩ 1 1 [.int .i64 m] rfl rfl hnew.out (by simp [Value.oneCell']) hml hby8 hbs.out ?_)
        intro v' w7 hown hgrow hne
        obtain ⟨ya, yc, rfl⟩ := own_sl hown
        have hgt := grown_tw hgrow
        have hS : ∀ i, i ∈ (Value.ownBlock (.slice xa k xc)).toList → w.heap.size ≤ i := fun i hi => by
          rcases OW.out.2 with ⟨h', _⟩ | ⟨g', cap', cur', hv, hg', _⟩
          · rw [h'] at hi; simp [Value.ownBlock] at hi
          · rw [hv] at hi; simp [Value.ownBlock] at hi; omega
        have lt := LT.out
        have nin : ∀ x, x < w.heap.size → x ∉ (Value.ownBlock (.slice xa k xc)).toList := fun x h1 h2 => by have := hS x h2; omega
        have PO3 := Lib.hid (PO2.out.keep hgt (nin _ lt.1) (nin _ lt.2.1) (nin _ lt.2.2.1) (nin _ lt.2.2.2.1) (nin _ lt.2.2.2.2.1) (nin _ lt.2.2.2.2.2))
        have TW3 : Hid (Tw [A.g, A.b] w w7) := Lib.hid ⟨hgt.os.trans TW2.out.os, hgt.tape.trans TW2.out.tape, hgt.output.trans TW2.out.output, Nat.le_trans TW2.out.size hgt.size, fun i h1 h2 => (hgt.block i (Nat.lt_of_lt_of_le h1 TW2.out.size) (nin i h1)).trans (TW2.out.block i h1 h2)⟩
        have OW3 : Hid (w7.ownsRow w.heap.size 3 1 (.slice ya (k + 1) yc) (k + 1) ((st.take (k + 1)).map iv)) := Lib.hid (by rw [HT.out, List.map_take]; exact hown)
        clear hgt hS lt nin hown hgrow hne OW OW2 PO PO2 TW TW2 hnew hbs HT hml hby8
        have PD := Lib.hid PO3.out.dr
        have TD := Lib.hid TW3.out.dr
        have OD := Lib.hid (show w7.drew.ownsRow w.heap.size 3 1 (.slice ya (k + 1) yc) (k + 1) ((st.take (k + 1)).map iv) from OW3.out)
        obtain ⟨q0, q1, q2, q3, q4⟩ := PO3.out.cells
        clear q1 q2 q3 q4 PO3 TW3 OW3
        go_wp2_with fail
        go_region_held3 (fun w' => w'.cell? ⟨A.p, 0, none⟩ = some (.pointer (some ⟨A.g, 0, none⟩))) (first | exact q0)
          (first
            | (go_at_call 31; (with_reducible refine (LK.out _ PD.out).mono ?_); rintro e w8 ⟨rfl, rfl⟩)
            | (go_at_call 37; (with_reducible refine (PK.out _ PD.out).mono ?_); rintro e w8 ⟨rfl, f1, f2⟩; have PE := Lib.hid f1; have TE := Lib.hid (TD.out.trans f2); have OE := Lib.hid (own_up OD.out f2 (by intro i hi; have := LT.out; simp at hi; omega)); obtain ⟨q0, q1, q2, q3, q4⟩ := f1.cells; clear f1 f2 q1 q2 q3 q4))
        all_goals
          clear LK PK PD TD OD
          have TE := Lib.hid (show Tw [A.g, A.b] w w8 from TE.out)
          go_wp2
          exact ⟨⟨k + 1, y, ya, yc, rfl, rfl, by omega, HS2, OE, PE, TE⟩, by simp [slen]; omega⟩
      · obtain rfl : k = st.length := by omega
        have hst := HS.out
        rw [List.drop_length] at hst
        have H1 := Lib.hid (fun W (hW : Po A nv nb hd ow l s W) => phas_out x A.n hst _ W (slots_any _ _ _ _ _ _ _ _ W hW.box))
        have F : Hid (ShOf A nv nb hd ow l s st w (.returned (.slice xa st.length xc)) wr) := Lib.hid ⟨_, rfl, by have := OW.out; rwa [List.take_length] at this, PO.out, TW.out⟩
        clear hst HS OW TW
        go_wp2_with fail
        refine (H1.out _ PO.out).mono ?_; rintro e w6 ⟨rfl, rfl⟩
        clear H1 PO
        go_wp2
        go_ret
        exact F.out
end
end Go.Proofs.Ytaihmkflhapjeaa

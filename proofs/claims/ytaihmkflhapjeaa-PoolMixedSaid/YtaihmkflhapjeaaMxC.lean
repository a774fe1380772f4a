/-
  PoolMixed: the state at the loop's head, at the beginning and behind an act that begins.
-/
import Derived.Test.YtaihmkflhapjeaaMxB
namespace Go.Proofs.Ytaihmkflhapjeaa
open Go.RowKit Go.MuLone
set_option linter.unusedVariables false
def nils : Array Value := #[.pointer none, .pointer none, .pointer none, .pointer none]
def nosl : Array Value := #[.slice none 0 0, .slice none 0 0, .slice none 0 0, .slice none 0 0]
theorem jt_begin {A : Ad} {l' : List Int} {w w3 w4 : World} {q g cap : Nat} (hbase : A.base = 3) (hAk : A.k = 4) (hn : A.n ≤ 30) (hsz : w.heap.size ≤ A.p ∧ w.heap.size ≤ A.g ∧ w.heap.size ≤ A.b ∧ w.heap.size ≤ A.bn ∧ w.heap.size ≤ A.bh ∧ w.heap.size ≤ A.bo) (hlf : LF l' 3 A.n) (hl : l'.length = 3 + (A.n + 1)) (po : Po A (fun _ => .slice none 0 0) (fun _ => 0) (fun _ => false) (fun _ => .slice none 0 0) l' ((A.n : Int) + 1) w3) (bl : Below w.heap.size w w3) (hq : q = w3.heap.size) (hg : q < g) (hR : RH q g A.n cap (fun _ => false) w4) (hb4 : Below w3.heap.size w3 w4) :
    Jt A q g cap w4.heap.size (w4.heap.size + 1) w.heap.size w ((A.n : Int) + 1) ((w4.alloc (.cells nils 47)).alloc (.cells nosl 48)) := by
  have M0 := mx_begin hbase hAk hn hsz hlf hl po bl
  have hlt := po.lt
  have hs := bl.size
  have hs4 := hb4.size
  have b5 := bl_al (Below.refl _ w4) (.cells nils 47)
  have b6 := bl_al (Below.refl _ (w4.alloc (.cells nils 47))) (.cells nosl 48)
  have e5 := heap_alloc_new w4 (.cells nils 47)
  have e6 := heap_alloc_new (w4.alloc (.cells nils 47)) (.cells nosl 48)
  have e5 := (b6.block _ (lt_hp e5)).trans e5
  have s5 : (w4.alloc (.cells nils 47)).heap.size = w4.heap.size + 1 := by simp
  rw [s5] at e6
  have s6 := lt_hp e6
  have R6 := (hR.up b5).up b6
  have hR' := R6
  obtain ⟨r1, r2, r3, ⟨cur, r4⟩, r5⟩ := hR'
  obtain ⟨p1, p2, p3, ⟨cur', p4⟩, p5⟩ := hR
  have q1 := lt_hp p1
  have q2 := lt_hp p4
  have MM := mx_app (S := []) (V := [q, g, w4.heap.size, w4.heap.size + 1]) M0 (Tw.of (bl_tr (bl_tr hb4 b5) b6)) (by simp) (fun b hb => by
    simp only [List.mem_cons, List.not_mem_nil, or_false] at hb
    rcases hb with rfl | rfl | rfl | rfl
    · exact ⟨by omega, .inr (by omega)⟩
    · exact ⟨by omega, .inr (by omega)⟩
    · exact ⟨by omega, .inr (by omega)⟩
    · exact ⟨by omega, .inr (by omega)⟩)
  refine ⟨_, _, _, _, _, _, _, _, _, _, _, fun j => hv false, fun _ => .slice none 0 0, fun _ => [], fun _ => 0, fun _ => 0, MM, ⟨RHM.of R6, e5, e6, fun i hi => ⟨rfl, .inl ⟨rfl, rfl⟩⟩, fun i hi x hx => (by cases hx), fun i hi j hj hne x hx => (by cases hx), by simp, fun i hi b hb => (by simp [vblk] at hb), fun i hi x hx => (by cases hx)⟩, ⟨fun m hm => ⟨fun _ => trivial, fun _ => rfl⟩, fun i hi => List.nodup_nil, fun i hi m => (by simp)⟩, Int.le_refl _, ?_, fun c hc => ?_⟩
  · exact bl_tr (bl_tr (bl.trans (hb4.mono hs)) b5) b6
  · simp only [List.append_nil, List.mem_cons, List.not_mem_nil, or_false] at hc
    rcases hc with rfl | rfl | rfl | rfl <;> omega
section
variable {A : Ad} {nv : Nat → Value} {nb : Nat → Int} {hd : Nat → Bool} {ow : Nat → Value} {l : List Int} {s : Int} {own : Nat → List Nat} {st : List Nat} {loc : Nat → Loc} {ac : Nat → Option Xa} {B i : Nat} {H : List Nat} {w w1 : World} {x : Xa}
variable {q g cap qa qh : Nat} {hvv : Nat → Int} {hl : Nat → Value} {L : Nat → List Nat} {bx : Nat → Nat} {fr : Nat → Int}
/-- an act has begun: its box is laid and told -/
theorem mx_lay {v : Int} (hM : Mx A nv nb hd ow l s own st loc (upf ac i (some x)) B H w) (hL : Lv q g A.n cap qa qh B H hvv hl L bx fr ac w) (hi : i < 4) (hx : ac i = none) (h0 : 0 ≤ v) (h1 : v ≤ 10000) :
    Mx A nv nb hd ow l s own st loc (upf ac i (some x)) B (w.heap.size :: H) ((w.alloc (.cells #[.pointer (some ⟨x.a, 0, none⟩), .bool x.gv, .int .i64 (xs x), .int .i64 v] 52)).setCell ⟨qa, i, none⟩ (.pointer (some ⟨w.heap.size, 0, none⟩))) ∧
    Lv q g A.n cap qa qh B (w.heap.size :: H) hvv hl L (upf bx i w.heap.size) (upf fr i v) (upf ac i (some x)) ((w.alloc (.cells #[.pointer (some ⟨x.a, 0, none⟩), .bool x.gv, .int .i64 (xs x), .int .i64 v] 52)).setCell ⟨qa, i, none⟩ (.pointer (some ⟨w.heap.size, 0, none⟩))) := by
  have al := bl_al (Below.refl _ w) (.cells #[.pointer (some ⟨x.a, 0, none⟩), .bool x.gv, .int .i64 (xs x), .int .i64 v] 52)
  have e := heap_alloc_new w (.cells #[.pointer (some ⟨x.a, 0, none⟩), .bool x.gv, .int .i64 (xs x), .int .i64 v] 52)
  have k : Tw [qa] w ((w.alloc (.cells #[.pointer (some ⟨x.a, 0, none⟩), .bool x.gv, .int .i64 (xs x), .int .i64 v] 52)).setCell ⟨qa, i, none⟩ (.pointer (some ⟨w.heap.size, 0, none⟩))) := ((Tw.refl [qa] w).al _).st qa (.inl (by simp)) i _
  have hsz := lt_hp e
  refine ⟨mx_app (V := [w.heap.size]) hM k (fun b hb => by simp at hb; subst hb; exact hL.mem.2.2.1) (fun b hb => ?_), (hL.up al).lay hi hx (fun c hc => hM.hw c hc) e h0 h1⟩
  simp at hb
  subst hb
  exact ⟨Nat.lt_of_lt_of_le hsz (by simp), .inr (Nat.le_refl _)⟩
end
end Go.Proofs.Ytaihmkflhapjeaa

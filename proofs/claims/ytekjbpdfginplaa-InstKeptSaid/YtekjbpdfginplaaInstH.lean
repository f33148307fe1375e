/- The laws' own helpers: the chapter's example. -/
import Derived.Test.YtekjbpdfginplaaInstLB
import Derived.Test.YtekjbpdfginplaaInstLC
import Derived.Test.YtekjbpdfginplaaInstLD
import Derived.Test.YtekjbpdfginplaaInstLK
namespace Go.Proofs.Ytekjbpdfginplaa.Inst
open Go.RowKit

def exI : InstD := ⟨[1, -1], [⟨0, 1, 0, 2, 0⟩]⟩
def exJ : InstD := ⟨[1, -1], [⟨0, 1, 0, -1, 0⟩]⟩
theorem exI_right : rightD exI = 0 := by decide +kernel
theorem exJ_right : rightD exJ = 22 := by decide +kernel
theorem exI_span : spanD exI = 3 := by decide +kernel
theorem exIJ : decide (exI = exJ) = false := by decide +kernel
theorem exI_without : (withoutD exI [true] []).arcs.length = 0 := by decide +kernel
theorem cells_blk {w : World} {g : Nat} {t : TypeId} {vs : List Value} (h : Blk w g t vs.toArray) : Cells w w.heap.size (some ⟨g, 0, none⟩) vs := by
  intro _
  refine ⟨g, 0, rfl, h.lt, fun i hi => ?_⟩
  rw [Nat.zero_add, h.cell i]
  simp [List.getElem?_eq_getElem hi]
theorem inst_blk {w : World} {g h : Nat} {I : InstD} (hs : Blk w g 2 (numV I.sup).toArray) (ha : Blk w h 45 (arcV I.arcs).toArray) (h1 : I.sup.length ≤ 17592186044416) (h2 : I.arcs.length ≤ 17592186044416) : InstIs w (some ⟨g, 0, none⟩) (some ⟨h, 0, none⟩) I :=
  ⟨h1, h2, cells_blk hs, cells_blk ha⟩
/-- An instance's box. -/
structure Boxed (w : World) (p : Nat) (A A2 : Option Addr) (n m c d : Nat) (I : InstD) : Prop where
  box : Blk w p 25 #[.slice A n c, .slice A2 m d]
  is : InstIs w A A2 I
  n : I.sup.length = n
  m : I.arcs.length = m
theorem Boxed.later {w u : World} {p n m c d : Nat} {A A2 : Option Addr} {I : InstD} (h : Boxed w p A A2 n m c d I) (hb : Below w.heap.size w u) : Boxed u p A A2 n m c d I := ⟨h.box.below hb h.box.lt, h.is.later hb, h.n, h.m⟩
theorem Boxed.cells {w : World} {p n m c d : Nat} {A A2 : Option Addr} {I : InstD} (h : Boxed w p A A2 n m c d I) : w.cell? ⟨p, 0, none⟩ = some (.slice A n c) ∧ w.cell? ⟨p, 1, none⟩ = some (.slice A2 m d) ∧ p < w.heap.size := ⟨h.box.cell 0, h.box.cell 1, h.box.lt⟩

/-- What is called with an instance whose lengths have names. -/
structure Here (w : World) (A A2 : Option Addr) (n m : Nat) (I : InstD) : Prop where
  is : InstIs w A A2 I
  n : I.sup.length = n
  m : I.arcs.length = m
theorem Boxed.here {w : World} {p n m c d : Nat} {A A2 : Option Addr} {I : InstD} (h : Boxed w p A A2 n m c d I) : Here w A A2 n m I := ⟨h.is, h.n, h.m⟩
theorem Here.later {w u : World} {n m : Nat} {A A2 : Option Addr} {I : InstD} (h : Here w A A2 n m I) (hb : Below w.heap.size w u) : Here u A A2 n m I := ⟨h.is.later hb, h.n, h.m⟩
theorem Here.right {w : World} {n m : Nat} {A A2 : Option Addr} {I : InstD} (h : Here w A A2 n m I) (c d : Nat) (r : Int) (hr : rightD I = r) : Calls Try.prog 20 #[.agg #[.slice A n c, .slice A2 m d]] w fun e w' => e = .returned (.int .u16 r) ∧ Below w.heap.size w w' := by
  obtain ⟨hi, rfl, rfl⟩ := h
  subst hr
  exact right_any A A2 c d I w hi
theorem Here.span {w : World} {n m : Nat} {A A2 : Option Addr} {I : InstD} (h : Here w A A2 n m I) (c d : Nat) (r : Int) (hr : spanD I = r) : Calls Try.prog 24 #[.agg #[.slice A n c, .slice A2 m d]] w fun e w' => e = .returned (.int .i64 r) ∧ Below w.heap.size w w' := by
  obtain ⟨hi, rfl, rfl⟩ := h
  subst hr
  exact span_any A A2 c d I w hi
theorem Here.same {w : World} {n m n' m' : Nat} {A A2 B B2 : Option Addr} {I J : InstD} (h : Here w A A2 n m I) (g : Here w B B2 n' m' J) (c d c' d' : Nat) (r : Bool) (hr : decide (I = J) = r) : Calls Try.prog 23 #[.agg #[.slice A n c, .slice A2 m d], .agg #[.slice B n' c', .slice B2 m' d']] w fun e w' => e = .returned (.bool r) ∧ Below w.heap.size w w' := by
  obtain ⟨hi, rfl, rfl⟩ := h
  obtain ⟨hj, rfl, rfl⟩ := g
  subst hr
  exact same_any A A2 B B2 c d c' d' I J w hi hj
theorem Here.rright {w : World} {n m : Nat} {A A2 : Option Addr} {I : InstD} (h : Here w A A2 n m I) (c d : Nat) (r : Int) (hr : rightD I = r) : Calls Try.prog 21 #[.agg #[.slice A n c, .slice A2 m d]] w fun e w' => e = .returned (.int .i64 r) ∧ Below w.heap.size w w' := by
  obtain ⟨hi, rfl, rfl⟩ := h
  subst hr
  exact rright_any A A2 c d I w hi
theorem Here.rspan {w : World} {n m : Nat} {A A2 : Option Addr} {I : InstD} (h : Here w A A2 n m I) (c d : Nat) (r : Int) (hr : spanD I = r) : Calls Try.prog 28 #[.agg #[.slice A n c, .slice A2 m d]] w fun e w' => e = .returned (.int .i64 r) ∧ Below w.heap.size w w' := by
  obtain ⟨hi, rfl, rfl⟩ := h
  subst hr
  exact rspan_any A A2 c d I w hi
theorem Here.rsame {w : World} {n m n' m' : Nat} {A A2 B B2 : Option Addr} {I J : InstD} (h : Here w A A2 n m I) (g : Here w B B2 n' m' J) (c d c' d' : Nat) (r : Bool) (hr : decide (I = J) = r) : Calls Try.prog 26 #[.agg #[.slice A n c, .slice A2 m d], .agg #[.slice B n' c', .slice B2 m' d']] w fun e w' => e = .returned (.bool r) ∧ Below w.heap.size w w' := by
  obtain ⟨hi, rfl, rfl⟩ := h
  obtain ⟨hj, rfl, rfl⟩ := g
  subst hr
  exact rsame_any A A2 B B2 c d c' d' I J w hi hj
theorem Here.rwithout {w : World} {n m : Nat} {A A2 : Option Addr} {I : InstD} (h : Here w A A2 n m I) (c d : Nat) (a b : Option Addr) (k l ca cb : Nat) (ns zs : List Bool) (J : InstD) (hJ : withoutD I ns zs = J) (hk : ns.length = k) (hl : zs.length = l) (ha : Cells w w.heap.size a (boolV ns)) (hb : Cells w w.heap.size b (boolV zs)) :
    Calls Try.prog 29 #[.agg #[.slice A n c, .slice A2 m d], .slice a k ca, .slice b l cb] w fun e w' => ∃ B x B2 y, e = .returned (.agg #[.slice B J.sup.length x, .slice B2 J.arcs.length y]) ∧ Here w' B B2 J.sup.length J.arcs.length J ∧ Below w.heap.size w w' := by
  obtain ⟨hi, rfl, rfl⟩ := h
  subst hk hl hJ
  refine (rwithout_any A A2 c d I a b ca cb ns zs w hi ha hb).mono ?_
  rintro e w' ⟨B, x, B2, y, rfl, hc, hw⟩
  exact ⟨B, x, B2, y, rfl, ⟨hc, rfl, rfl⟩, hw⟩
theorem Here.without {w : World} {n m : Nat} {A A2 : Option Addr} {I : InstD} (h : Here w A A2 n m I) (c d : Nat) (a b : Option Addr) (k l ca cb : Nat) (ns zs : List Bool) (J : InstD) (hJ : withoutD I ns zs = J) (hk : ns.length = k) (hl : zs.length = l) (ha : Cells w w.heap.size a (boolV ns)) (hb : Cells w w.heap.size b (boolV zs)) :
    Calls Try.prog 22 #[.agg #[.slice A n c, .slice A2 m d], .slice a k ca, .slice b l cb] w fun e w' => ∃ B x B2 y, e = .returned (.agg #[.slice B J.sup.length x, .slice B2 J.arcs.length y]) ∧ Copied w w' (.slice B J.sup.length x) (.slice B2 J.arcs.length y) J.sup.length J.arcs.length J := by
  obtain ⟨hi, rfl, rfl⟩ := h
  subst hk hl hJ
  refine (without_any A A2 c d I I.sup.length I.arcs.length rfl rfl a b ca cb ns zs w hi ha hb).mono ?_
  rintro e w' ⟨v1, v2, rfl, hc⟩
  obtain ⟨-, A3, c3, rfl, -, -, -⟩ := own_cells hc.sup
  obtain ⟨-, A4, c4, rfl, -, -, -⟩ := own_cells hc.arcs
  exact ⟨_, _, _, _, rfl, hc⟩
/-- An instance of one's own is one. -/
theorem Copied.here {w u : World} {B B2 : Option Addr} {x y n m : Nat} {J : InstD} (h : Copied w u (.slice B n x) (.slice B2 m y) n m J) (hn : J.sup.length = n) (hm : J.arcs.length = m) (h1 : n ≤ 17592186044416) (h2 : m ≤ 17592186044416) : Here u B B2 n m J := by
  subst hn hm
  refine ⟨⟨h1, h2, own_row h.sup, own_row h.arcs⟩, rfl, rfl⟩
theorem field_one (x y : Value) (a : Option Addr) (n c : Nat) (hy : y = .slice a n c) (W : World) : (Instr.field 25 (.agg #[x, y]) 1).run Try.prog W = .ok y W := by
  subst hy
  simp [Instr.field, go_sem, asAgg]
theorem row_nil (w : World) (B : Nat) : Cells w B none (boolV []) := fun h => absurd h (by simp [boolV])

set_option maxHeartbeats 4000000 in
theorem known_any (w : World) : Calls Try.prog 11 #[] w fun e w' => e = .returned (.bool true) ∧ Below w.heap.size w w' := by
  go_enter Try.func11, Try.ntmps11
  go_upto_region 3 with fail
  obtain ⟨p, hp⟩ : ∃ p, p = w.heap.size + 1 + 1 := ⟨_, rfl⟩
  obtain ⟨q, hq⟩ : ∃ q, q = w.heap.size + 1 + 1 + 1 + 1 + 1 := ⟨_, rfl⟩
  obtain ⟨W0, hW0⟩ : ∃ W0, W0 = ((((((w.alloc (.cells #[.int .i64 1, .int .i64 (-1)] 2)).alloc (.cells #[.int .i64 0, .int .i64 1, .int .i64 0, .int .i64 2, .int .i64 0] 45)).alloc (.cells #[.slice (some ⟨w.heap.size, 0, none⟩) 2 2, .slice (some ⟨w.heap.size + 1, 0, none⟩) 1 1] 25)).alloc (.cells #[.int .i64 1, .int .i64 (-1)] 2)).alloc (.cells #[.int .i64 0, .int .i64 1, .int .i64 0, .int .i64 (-1), .int .i64 0] 45)).alloc (.cells #[.slice (some ⟨w.heap.size + 1 + 1 + 1, 0, none⟩) 2 2, .slice (some ⟨w.heap.size + 1 + 1 + 1 + 1, 0, none⟩) 1 1] 25)) := ⟨_, rfl⟩
  have hi : Boxed W0 p (some ⟨w.heap.size, 0, none⟩) (some ⟨w.heap.size + 1, 0, none⟩) 2 1 2 1 exI := by
    subst hW0 hp
    refine ⟨by (repeat (first | exact Blk.new _ _ _ | (refine blk_at ?_ _ _; (simp; done)) | refine Blk.drew ?_ | refine Blk.alloc ?_ _)), inst_blk ?_ ?_ (by decide) (by decide), rfl, rfl⟩
    · show Blk _ _ 2 #[.int .i64 1, .int .i64 (-1)]; (repeat (first | exact Blk.new _ _ _ | (refine blk_at ?_ _ _; (simp; done)) | refine Blk.drew ?_ | refine Blk.alloc ?_ _))
    · show Blk _ _ 45 #[.int .i64 0, .int .i64 1, .int .i64 0, .int .i64 2, .int .i64 0]; (repeat (first | exact Blk.new _ _ _ | (refine blk_at ?_ _ _; (simp; done)) | refine Blk.drew ?_ | refine Blk.alloc ?_ _))
  have hj : Boxed W0 q (some ⟨w.heap.size + 1 + 1 + 1, 0, none⟩) (some ⟨w.heap.size + 1 + 1 + 1 + 1, 0, none⟩) 2 1 2 1 exJ := by
    subst hW0 hq
    refine ⟨by (repeat (first | exact Blk.new _ _ _ | (refine blk_at ?_ _ _; (simp; done)) | refine Blk.drew ?_ | refine Blk.alloc ?_ _)), inst_blk ?_ ?_ (by decide) (by decide), rfl, rfl⟩
    · show Blk _ _ 2 #[.int .i64 1, .int .i64 (-1)]; (repeat (first | exact Blk.new _ _ _ | (refine blk_at ?_ _ _; (simp; done)) | refine Blk.drew ?_ | refine Blk.alloc ?_ _))
    · show Blk _ _ 45 #[.int .i64 0, .int .i64 1, .int .i64 0, .int .i64 (-1), .int .i64 0]; (repeat (first | exact Blk.new _ _ _ | (refine blk_at ?_ _ _; (simp; done)) | refine Blk.drew ?_ | refine Blk.alloc ?_ _))
  have HW := Lib.hid (show Below w.heap.size w W0 by subst hW0; (repeat (first | exact Below.refl _ _ | refine Below.drew ?_ | refine Below.alloc ?_ (by simp <;> omega) _)))
  rw [← hW0, ← hq, ← hp]
  generalize (some ⟨w.heap.size, 0, none⟩ : Option Addr) = A at hi
  generalize (some ⟨w.heap.size + 1, 0, none⟩ : Option Addr) = A2 at hi
  generalize (some ⟨w.heap.size + 1 + 1 + 1, 0, none⟩ : Option Addr) = B at hj
  generalize (some ⟨w.heap.size + 1 + 1 + 1 + 1, 0, none⟩ : Option Addr) = B2 at hj
  clear hW0 hp hq
  have HI := Lib.hid hi
  have HJ := Lib.hid hj
  have RI := Lib.hid (fun w' (h : Below W0.heap.size W0 w') => (HI.out.here.later h).right 2 1 0 exI_right)
  have RJ := Lib.hid (fun w' (h : Below W0.heap.size W0 w') => (HJ.out.here.later h).right 2 1 22 exJ_right)
  have SI := Lib.hid (fun w' (h : Below W0.heap.size W0 w') => (HI.out.here.later h).span 2 1 3 exI_span)
  have EI := Lib.hid (fun w' (h : Below W0.heap.size W0 w') => (HI.out.here.later h).same (HI.out.here.later h) 2 1 2 1 true (decide_eq_true rfl))
  have EJ := Lib.hid (fun w' (h : Below W0.heap.size W0 w') => (HI.out.here.later h).same (HJ.out.here.later h) 2 1 2 1 false exIJ)
  have WI := Lib.hid (fun w' (h : Below W0.heap.size W0 w') g (hc : Cells w' w'.heap.size (some ⟨g, 0, none⟩) (boolV [true])) => (HI.out.here.later h).without 2 1 (some ⟨g, 0, none⟩) none 1 0 1 0 [true] [] _ rfl rfl rfl hc (row_nil _ _))
  rw [exI_without] at WI
  have FO := fun A3 k c3 A4 c4 W => field_one (.slice A3 k c3) (.slice A4 0 c4) A4 0 c4 rfl W
  have HB := Lib.hid (Below.refl W0.heap.size W0)
  obtain ⟨x0, x1, x2⟩ := hi.cells
  obtain ⟨y0, y1, y2⟩ := hj.cells
  clear hi hj
  go_wp2_with (first
    | (go_at_call 20; (with_reducible refine (RI.out _ ?bb).mono ?_); (case bb => exact HB.out); rintro e wn ⟨rfl, hb⟩; replace HB := Lib.hid (chain2 HB.out hb); obtain ⟨x0, x1, x2⟩ := (HI.out.later HB.out).cells; obtain ⟨y0, y1, y2⟩ := (HJ.out.later HB.out).cells; clear hb)
    | (go_at_call 20; (with_reducible refine (RJ.out _ ?bb).mono ?_); (case bb => exact HB.out); rintro e wn ⟨rfl, hb⟩; replace HB := Lib.hid (chain2 HB.out hb); obtain ⟨x0, x1, x2⟩ := (HI.out.later HB.out).cells; obtain ⟨y0, y1, y2⟩ := (HJ.out.later HB.out).cells; clear hb)
    | (go_at_call 24; (with_reducible refine (SI.out _ ?bb).mono ?_); (case bb => exact HB.out); rintro e wn ⟨rfl, hb⟩; replace HB := Lib.hid (chain2 HB.out hb); obtain ⟨x0, x1, x2⟩ := (HI.out.later HB.out).cells; obtain ⟨y0, y1, y2⟩ := (HJ.out.later HB.out).cells; clear hb)
    | (go_at_call 23; (with_reducible refine (EI.out _ ?bb).mono ?_); (case bb => exact HB.out); rintro e wn ⟨rfl, hb⟩; replace HB := Lib.hid (chain2 HB.out hb); obtain ⟨x0, x1, x2⟩ := (HI.out.later HB.out).cells; obtain ⟨y0, y1, y2⟩ := (HJ.out.later HB.out).cells; clear hb)
    | (go_at_call 23; (with_reducible refine (EJ.out _ ?bb).mono ?_); (case bb => exact HB.out); rintro e wn ⟨rfl, hb⟩; replace HB := Lib.hid (chain2 HB.out hb); obtain ⟨x0, x1, x2⟩ := (HI.out.later HB.out).cells; obtain ⟨y0, y1, y2⟩ := (HJ.out.later HB.out).cells; clear hb)
    | (go_at_call 22; (with_reducible refine (WI.out _ ?bb _ ?cc).mono ?_); (case bb => exact HB.out.alloc HB.out.size _); (case cc => exact cells_blk (Blk.new _ _ _)); rintro e wn ⟨A3, c3, A4, c4, rfl, hc⟩; have HB2 := Lib.hid (chain2 (HB.out.alloc HB.out.size _) hc.below); clear hc))
  go_ret
  exact ⟨rfl, chain2 HW.out HB2.out⟩
end Go.Proofs.Ytekjbpdfginplaa.Inst

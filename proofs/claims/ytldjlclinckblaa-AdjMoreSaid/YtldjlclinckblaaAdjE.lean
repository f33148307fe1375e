/- All that is asked of a graph. -/
import Derived.Test.YtldjlclinckblaaAdjD
namespace Go.Proofs.Ytldjlclinckblaa.Adj
open Go.RowKit Go.Proofs.Ytldjlclinckblaa.Inst

/-- What holds in the last region: the boxes, and that all else is as it was. -/
abbrev SA (W6 : World) (p q r : Nat) (A A2 : Option Addr) (n c m d : Nat) (X : ArcD) (u : World) : Prop := u.cell? ⟨p, 0, none⟩ = some (.slice A n c) ∧ u.cell? ⟨p, 1, none⟩ = some (.slice A2 m d) ∧ u.cell? ⟨q, 0, none⟩ = some (.int .i64 X.frm) ∧ u.cell? ⟨q, 1, none⟩ = some (.int .i64 X.to) ∧ u.cell? ⟨q, 2, none⟩ = some (.int .i64 X.low) ∧ u.cell? ⟨q, 3, none⟩ = some (.int .i64 X.cap) ∧ u.cell? ⟨q, 4, none⟩ = some (.int .i64 X.cost) ∧ u.cell? ⟨r, 0, none⟩ = some (.int .i64 X.frm) ∧ u.cell? ⟨r, 1, none⟩ = some (.int .i64 X.to) ∧ u.cell? ⟨r, 2, none⟩ = some (.int .i64 X.low) ∧ u.cell? ⟨r, 3, none⟩ = some (.int .i64 X.cap) ∧ u.cell? ⟨r, 4, none⟩ = some (.int .i64 X.cost) ∧ Below W6.heap.size W6 u
theorem keepA {W6 w w' : World} {p q r : Nat} {A A2 : Option Addr} {n c m d : Nat} {X : ArcD} (hp : p < W6.heap.size) (hq : q < W6.heap.size) (hr : r < W6.heap.size) (h : SA W6 p q r A A2 n c m d X w) (hb : Below w.heap.size w w') : SA W6 p q r A A2 n c m d X w' := by
  obtain ⟨h0, h1, h2, h3, h4, h5, h6, h7, h8, h9, h10, h11, h12⟩ := h
  have z := h12.size
  exact ⟨(hb.cell (p := ⟨p, 0, none⟩) (by show p < _; omega)).trans h0, (hb.cell (p := ⟨p, 1, none⟩) (by show p < _; omega)).trans h1, (hb.cell (p := ⟨q, 0, none⟩) (by show q < _; omega)).trans h2, (hb.cell (p := ⟨q, 1, none⟩) (by show q < _; omega)).trans h3, (hb.cell (p := ⟨q, 2, none⟩) (by show q < _; omega)).trans h4, (hb.cell (p := ⟨q, 3, none⟩) (by show q < _; omega)).trans h5, (hb.cell (p := ⟨q, 4, none⟩) (by show q < _; omega)).trans h6, (hb.cell (p := ⟨r, 0, none⟩) (by show r < _; omega)).trans h7, (hb.cell (p := ⟨r, 1, none⟩) (by show r < _; omega)).trans h8, (hb.cell (p := ⟨r, 2, none⟩) (by show r < _; omega)).trans h9, (hb.cell (p := ⟨r, 3, none⟩) (by show r < _; omega)).trans h10, (hb.cell (p := ⟨r, 4, none⟩) (by show r < _; omega)).trans h11, chain2 h12 hb⟩

set_option maxRecDepth 100000 in
set_option maxHeartbeats 8000000 in
theorem asks_any {Gr : World → Nat → InstD → Prop} (C : AdjC Gr) (A A2 : Option Addr) (c d n m : Nat) (I : InstD) (h1 : n ≤ 1000) (h2 : m ≤ 1000) (a nn : Int) (ha : I64 a) (hn : I64 nn) (w : World) (hI : Here w A A2 n m I) :
    Calls Try.prog 12 #[.agg #[.slice A n c, .slice A2 m d], .int .i64 a, .int .i64 nn] w fun e w' => e = .returned (.bool true) ∧ Below w.heap.size w w' := by
  obtain ⟨W1, hW1⟩ : ∃ W1, W1 = w.alloc (.cells #[.slice A n c, .slice A2 m d] 25) := ⟨_, rfl⟩
  obtain ⟨p, hp⟩ : ∃ p, p = w.heap.size := ⟨_, rfl⟩
  have B1 := Lib.hid (show Below w.heap.size w W1 by rw [hW1]; exact (Below.refl _ _).alloc (Nat.le_refl _) _)
  have BX := Lib.hid (show Blk W1 p 25 #[.slice A n c, .slice A2 m d] by rw [hW1]; exact blk_at hp.symm _ _)
  have H := Lib.hid (hI.later B1.out)
  have hs := hI.n
  have hm := hI.m
  have NW := Lib.hid (C.new A A2 c d n m I W1 H.out h1 h2)
  obtain ⟨X, hX⟩ : ∃ X, arcD I a = X := ⟨_, rfl⟩
  obtain ⟨f, hf⟩ : ∃ f, fitD I a = f := ⟨_, rfl⟩
  have AR := Lib.hid (fun b w' (h : Gr w' b I) => C.arc b I a w' h ha)
  rw [hX, hf] at AR
  have RA := Lib.hid (fun w' (h : Below W1.heap.size W1 w') => rarc_any A A2 c d n m I a X f hX hf w' (H.out.later h))
  have LA := Lib.hid (fun (w u : World) (b : Nat) (h : Gr w b I) (hb : Below w.heap.size w u) => C.later h hb)
  have HW := Lib.hid hW1
  have HP := Lib.hid hp
  have x0 := BX.out.cell 0
  have x1 := BX.out.cell 1
  have x2 := BX.out.lt
  simp at x0 x1
  clear hW1 hp hI hX hf
  go_enter Try.func12, Try.ntmps12
  go_upto_region 1 with fail
  rw [← HW.out, ← HP.out]
  go_upto_region 6 with (first
    | (go_at_call 13; (with_reducible refine NW.out.mono ?_); rintro e w2 ⟨b, rfl, hg, hb⟩; have G2 := Lib.hid hg; have B2 := Lib.hid hb; have BX2 := Lib.hid (BX.out.below hb BX.out.lt); have u0 := BX2.out.cell 0; have u1 := BX2.out.cell 1; have u2 := BX2.out.lt; simp at u0 u1; clear hg hb)
    | (go_at_call 20; (with_reducible refine (AR.out b _ G2.out).mono ?_); rintro e w3 ⟨rfl, hb⟩; have G3 := Lib.hid (LA.out _ _ _ G2.out (hb.alloc hb.size (.cells (arcCs X) 41))); have B3 := Lib.hid (chain2 B2.out (hb.alloc hb.size (.cells (arcCs X) 41))); have BX3 := Lib.hid (BX.out.below B3.out BX.out.lt); have v0 := BX3.out.cell 0; have v1 := BX3.out.cell 1; have v2 := BX3.out.lt; simp at v0 v1; clear hb)
    | (go_at_call 25; (with_reducible refine (RA.out _ B3.out).mono ?_); rintro e w4 ⟨rfl, hb⟩; have G4 := Lib.hid (LA.out _ _ _ G3.out hb); have BB := Lib.hid hb; have B4 := Lib.hid (chain2 B3.out hb); clear hb))
  obtain ⟨q, hq⟩ : ∃ q, q = w3.heap.size := ⟨_, rfl⟩
  obtain ⟨r, hr⟩ : ∃ r, r = w4.heap.size := ⟨_, rfl⟩
  obtain ⟨W6, hW6⟩ : ∃ W6, W6 = w4.alloc (.cells (arcCs X) 41) := ⟨_, rfl⟩
  have B46 : Below w4.heap.size w4 W6 := by rw [hW6]; exact (Below.refl _ _).alloc (Nat.le_refl _) _
  have BQ := Lib.hid (show Blk W6 q 41 (arcCs X) from ((blk_at (w := w3) hq.symm _ _).below BB.out (by simp; omega)).below B46 (by have := BB.out.size; simp at this; omega))
  have BR := Lib.hid (show Blk W6 r 41 (arcCs X) by rw [hW6]; exact blk_at hr.symm _ _)
  have B6 := Lib.hid (chain2 B4.out B46)
  have BX6 := Lib.hid (BX.out.below B6.out BX.out.lt)
  have G6 := Lib.hid (C.later G4.out B46)
  have H6 := Lib.hid (H.out.later B6.out)
  have BW := Lib.hid (chain2 B1.out B6.out)
  rw [← hW6, ← hr, ← hq]
  clear hq hr hW6 B46 x0 x1 x2 u0 u1 u2 v0 v1 v2 NW AR RA
  have x0 := BX6.out.cell 0
  have x1 := BX6.out.cell 1
  have x2 := BX6.out.lt
  have y0 := BQ.out.cell 0
  have y1 := BQ.out.cell 1
  have y2 := BQ.out.cell 2
  have y3 := BQ.out.cell 3
  have y4 := BQ.out.cell 4
  have y5 := BQ.out.lt
  have z0 := BR.out.cell 0
  have z1 := BR.out.cell 1
  have z2 := BR.out.cell 2
  have z3 := BR.out.cell 3
  have z4 := BR.out.cell 4
  have z5 := BR.out.lt
  simp at x0 x1 y0 y1 y2 y3 y4 z0 z1 z2 z3 z4
  have nq := fun w => eql_arc X X w
  rw [decide_eq_true rfl] at nq
  have ef : (f == f) = true := by simp
  have en : ((n : Int) == (n : Int)) = true := by simp
  have m9 : I.arcs.length ≤ 1000 := by rw [hm]; exact h2
  obtain ⟨lo, hlo⟩ : ∃ l, outD I nn = l := ⟨_, rfl⟩
  obtain ⟨li, hli⟩ : ∃ l, inD I nn = l := ⟨_, rfl⟩
  obtain ⟨lt, hlt⟩ : ∃ l, atD I nn = l := ⟨_, rfl⟩
  obtain ⟨lp, hlp⟩ : ∃ l : Int, (loopsD I nn : Int) = l := ⟨_, rfl⟩
  obtain ⟨ot, hot⟩ : ∃ l, otherD I a nn = l := ⟨_, rfl⟩
  have lo9 : lo.length ≤ 1000 := by rw [← hlo]; exact some_1000 _ _ _ _ m9
  have li9 : li.length ≤ 1000 := by rw [← hli]; exact some_1000 _ _ _ _ m9
  have lt9 : lt.length ≤ 1000 := by rw [← hlt]; exact some_1000 _ _ _ _ m9
  have el : (lp == lp) = true := by simp
  have eo : (ot == ot) = true := by simp
  have K0 := Lib.hid (fun w' (h : SA W6 p q r A A2 n c m d X w') => C.nodes b I w' (C.later G6.out h.2.2.2.2.2.2.2.2.2.2.2.2))
  rw [hs] at K0
  have K1 := Lib.hid (fun w' (h : SA W6 p q r A A2 n c m d X w') => C.out b I nn w' (C.later G6.out h.2.2.2.2.2.2.2.2.2.2.2.2) hn)
  have K2 := Lib.hid (fun w' (h : SA W6 p q r A A2 n c m d X w') => rout_any A A2 c d n m I nn lo hlo w' (H6.out.later h.2.2.2.2.2.2.2.2.2.2.2.2) (by omega))
  have K3 := Lib.hid (fun w' (h : SA W6 p q r A A2 n c m d X w') => C.in_ b I nn w' (C.later G6.out h.2.2.2.2.2.2.2.2.2.2.2.2) hn)
  have K4 := Lib.hid (fun w' (h : SA W6 p q r A A2 n c m d X w') => rin_any A A2 c d n m I nn li hli w' (H6.out.later h.2.2.2.2.2.2.2.2.2.2.2.2) (by omega))
  have K5 := Lib.hid (fun w' (h : SA W6 p q r A A2 n c m d X w') => C.at_ b I nn w' (C.later G6.out h.2.2.2.2.2.2.2.2.2.2.2.2) hn)
  have K6 := Lib.hid (fun w' (h : SA W6 p q r A A2 n c m d X w') => rat_any A A2 c d n m I nn lt hlt w' (H6.out.later h.2.2.2.2.2.2.2.2.2.2.2.2) (by omega))
  have K7 := Lib.hid (fun w' (h : SA W6 p q r A A2 n c m d X w') => C.loops b I nn w' (C.later G6.out h.2.2.2.2.2.2.2.2.2.2.2.2) hn)
  have K8 := Lib.hid (fun w' (h : SA W6 p q r A A2 n c m d X w') => rloops_any A A2 c d n m I nn lp hlp w' (H6.out.later h.2.2.2.2.2.2.2.2.2.2.2.2) (by omega))
  have K9 := Lib.hid (fun w' (h : SA W6 p q r A A2 n c m d X w') => C.other b I a nn w' (C.later G6.out h.2.2.2.2.2.2.2.2.2.2.2.2) ha hn)
  have KA := Lib.hid (fun w' (h : SA W6 p q r A A2 n c m d X w') => rother_any A A2 c d n m I a nn ot hot w' (H6.out.later h.2.2.2.2.2.2.2.2.2.2.2.2))
  rw [hlo] at K1
  rw [hli] at K3
  rw [hlt] at K5
  rw [hlp] at K7
  rw [hot] at K9
  have I1 := Lib.hid (fun E F e f w' g1 g2 => ints_same E F lo lo.length e f rfl (by omega) w' g1 g2)
  have I2 := Lib.hid (fun E F e f w' g1 g2 => ints_same E F li li.length e f rfl (by omega) w' g1 g2)
  have I3 := Lib.hid (fun E F e f w' g1 g2 => ints_same E F lt lt.length e f rfl (by omega) w' g1 g2)
  clear hlo hli hlt hlp hot C hs hm
  go_wp2_with fail
  go_region_held3 (fun u => u.cell? ⟨p, 0, none⟩ = some (.slice A n c) ∧ u.cell? ⟨p, 1, none⟩ = some (.slice A2 m d) ∧ u.cell? ⟨q, 0, none⟩ = some (.int .i64 X.frm) ∧ u.cell? ⟨q, 1, none⟩ = some (.int .i64 X.to) ∧ u.cell? ⟨q, 2, none⟩ = some (.int .i64 X.low) ∧ u.cell? ⟨q, 3, none⟩ = some (.int .i64 X.cap) ∧ u.cell? ⟨q, 4, none⟩ = some (.int .i64 X.cost) ∧ u.cell? ⟨r, 0, none⟩ = some (.int .i64 X.frm) ∧ u.cell? ⟨r, 1, none⟩ = some (.int .i64 X.to) ∧ u.cell? ⟨r, 2, none⟩ = some (.int .i64 X.low) ∧ u.cell? ⟨r, 3, none⟩ = some (.int .i64 X.cap) ∧ u.cell? ⟨r, 4, none⟩ = some (.int .i64 X.cost) ∧ Below W6.heap.size W6 u)
    (first | exact ⟨x0, x1, y0, y1, y2, y3, y4, z0, z1, z2, z3, z4, (Below.refl _ _).drew⟩ | exact keepA x2 y5 z5 ⟨x0, x1, y0, y1, y2, y3, y4, z0, z1, z2, z3, z4, (Below.refl _ _).drew⟩ hb | exact keepA x2 y5 z5 (by assumption) hb)
    (first
      | (go_at_call 14; (with_reducible refine (K0.out _ ⟨x0, x1, y0, y1, y2, y3, y4, z0, z1, z2, z3, z4, (Below.refl _ _).drew⟩).mono ?_); rintro e wa ⟨rfl, hb⟩)
      | (go_at_call 14; (with_reducible refine (K0.out _ (by assumption)).mono ?_); rintro e wa ⟨rfl, hb⟩)
      | (go_at_call 15; (with_reducible refine (K1.out _ (by assumption)).mono ?_); rintro e wb ⟨NA, c7, rfl, _, nc, hb, _⟩; have T1 := Lib.hid nc; clear nc)
      | (go_at_call 22; (with_reducible refine (K2.out _ (by assumption)).mono ?_); rintro e wc ⟨NB, c8, rfl, _, nc, hb, _⟩; have T2 := Lib.hid nc; have T3 := Lib.hid (T1.out.later (Nat.le_refl _) hb); clear nc)
      | (go_at_call 21; (with_reducible refine (I1.out _ _ _ _ _ T3.out T2.out).mono ?_); rintro e wd ⟨rfl, hb⟩)
      | (go_at_call 17; (with_reducible refine (K3.out _ (by assumption)).mono ?_); rintro e we ⟨NC, c9, rfl, _, nc, hb, _⟩; have T4 := Lib.hid nc; clear nc)
      | (go_at_call 26; (with_reducible refine (K4.out _ (by assumption)).mono ?_); rintro e wf ⟨ND, c10, rfl, _, nc, hb, _⟩; have T5 := Lib.hid nc; have T6 := Lib.hid (T4.out.later (Nat.le_refl _) hb); clear nc)
      | (go_at_call 21; (with_reducible refine (I2.out _ _ _ _ _ T6.out T5.out).mono ?_); rintro e wg ⟨rfl, hb⟩)
      | (go_at_call 18; (with_reducible refine (K5.out _ (by assumption)).mono ?_); rintro e wh ⟨NE, c11, rfl, _, nc, hb, _⟩; have T7 := Lib.hid nc; clear nc)
      | (go_at_call 23; (with_reducible refine (K6.out _ (by assumption)).mono ?_); rintro e wi ⟨NF, c12, rfl, _, nc, hb, _⟩; have T8 := Lib.hid nc; have T9 := Lib.hid (T7.out.later (Nat.le_refl _) hb); clear nc)
      | (go_at_call 21; (with_reducible refine (I3.out _ _ _ _ _ T9.out T8.out).mono ?_); rintro e wj ⟨rfl, hb⟩)
      | (go_at_call 19; (with_reducible refine (K7.out _ (by assumption)).mono ?_); rintro e wk ⟨rfl, hb⟩)
      | (go_at_call 27; (with_reducible refine (K8.out _ (by assumption)).mono ?_); rintro e wl ⟨rfl, hb⟩)
      | (go_at_call 16; (with_reducible refine (K9.out _ (by assumption)).mono ?_); rintro e wm ⟨rfl, hb⟩)
      | (go_at_call 28; (with_reducible refine (KA.out _ (by assumption)).mono ?_); rintro e wo ⟨rfl, hb⟩))
  all_goals
    rename_i hs
    have H9 := Lib.hid (show Below W6.heap.size W6 _ from hs.2.2.2.2.2.2.2.2.2.2.2.2)
    clear hs
    go_wp2_with fail
    go_ret
    exact ⟨rfl, chain2 BW.out H9.out⟩
end Go.Proofs.Ytldjlclinckblaa.Adj

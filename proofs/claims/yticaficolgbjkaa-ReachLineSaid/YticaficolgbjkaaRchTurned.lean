/- The law ReachTurned: its walk. -/
import Derived.Test.YticaficolgbjkaaRchXH
import Derived.Test.YticaficolgbjkaaAdjMathB
import Derived.Deep.QuietTactic
import Derived.BigQuiet
namespace Go.Proofs.Yticaficolgbjkaa.Rch
open Go.RowKit Go.Proofs.Yticaficolgbjkaa.Inst Go.Proofs.Yticaficolgbjkaa.Adj
set_option maxRecDepth 100000

theorem turn_arc {I : InstD} {a b : Nat} : ArcTo (turnD I) a b ↔ ArcTo I b a := by
  constructor
  · rintro ⟨k, hf, h1, h2⟩
    rw [fit_turn] at hf
    obtain ⟨_, _, _, _, _, _, hk, _⟩ := fit_nats hf
    change (arcAt (I.arcs.map turnA) k).frm = _ at h1
    change (arcAt (I.arcs.map turnA) k).to = _ at h2
    rw [arcAt_turn _ _ hk] at h1 h2
    exact ⟨k, hf, h2, h1⟩
  · rintro ⟨k, hf, h1, h2⟩
    obtain ⟨_, _, _, _, _, _, hk, _⟩ := fit_nats hf
    refine ⟨k, by rw [fit_turn]; exact hf, ?_, ?_⟩
    · show (arcAt (I.arcs.map turnA) k).frm = _
      rw [arcAt_turn _ _ hk]
      exact h2
    · show (arcAt (I.arcs.map turnA) k).to = _
      rw [arcAt_turn _ _ hk]
      exact h1
theorem turn_fro (I : InstD) : ArcTo (turnD I) = Fro I := by
  funext a b
  exact propext turn_arc
theorem fro_turn (I : InstD) : Fro (turnD I) = ArcTo I := by
  funext a b
  exact propext turn_arc
theorem turn_from (I : InstD) (S : List Int) : fromL (turnD I) S = toL I S := by
  unfold fromL toL
  rw [turn_fro]
  rfl
theorem turn_to (I : InstD) (S : List Int) : toL (turnD I) S = fromL I S := by
  unfold fromL toL
  rw [fro_turn]
  rfl
theorem turn_way {I : InstD} {a b : Nat} : Way (ArcTo (turnD I)) a b ↔ Way (ArcTo I) b a := by
  rw [turn_fro]
  exact way_back
theorem turn_mut {I : InstD} {a b : Nat} : Mut (turnD I) a b ↔ Mut I a b := by
  unfold Mut
  rw [turn_way, turn_way]
  exact And.comm
theorem turn_strong (I : InstD) : strongL (turnD I) = strongL I := by
  unfold strongL
  show (List.range I.sup.length).map _ = _
  apply List.map_congr_left
  intro n _
  obtain ⟨h1, _, h3⟩ := strong_spec I n
  exact strong_eq (turn_mut.2 h1) (fun m hm h => h3 m hm (turn_mut.1 h))
theorem turn_back (I : InstD) : backL (turnD I) = backL I := by
  unfold backL
  rw [show (turnD I).arcs.length = I.arcs.length from by simp [turnD]]
  apply List.map_congr_left
  intro a ha
  rw [List.mem_range] at ha
  apply yes_same
  unfold BackP
  rw [fit_turn, turn_way, show (turnD I).arcs = I.arcs.map turnA from rfl, arcAt_turn _ _ ha]
  rfl
theorem ints_same (a b : Option Addr) (N : List Nat) (k c d : Nat) (hk : N.length = k) (hN : k ≤ 100000) (w : World) (ha : Cells w w.heap.size a (natV N)) (hb : Cells w w.heap.size b (natV N)) :
    Calls Try.prog 23 #[.slice a k c, .slice b k d] w fun e w' => e = .returned (.bool true) ∧ Below w.heap.size w w' := by
  subst hk
  have h := rints_any a b (N.map fun (x : Nat) => (x : Int)) (N.map fun (x : Nat) => (x : Int)) N.length N.length c d (by simp) (by simp) (by rw [List.length_map]; unfold maxLen; omega) w ha hb
  rw [decide_eq_true rfl] at h
  exact h
theorem fromL_len (I : InstD) (S : List Int) : (fromL I S).length = I.sup.length := by unfold fromL; rw [metL_length]
theorem toL_len (I : InstD) (S : List Int) : (toL I S).length = I.sup.length := by unfold toL; rw [metL_length]

theorem arc_cells {w : World} {base m cap : Nat} {A : Option Addr} {L : List ArcD} (h : w.ownsRow base 37 5 (.slice A m cap) m (arcV L)) (hL : L.length = m) (k : Nat) (hk : k < m) :
    ∃ g, A = some ⟨g, 0, none⟩ ∧ g < w.heap.size ∧ ArcAt w g (k * 5) (arcAt L k) ∧ ∀ i, w.frozen? ⟨g, i, none⟩ = false := by
  obtain ⟨g, rfl, hg, -, fg⟩ := own_at h (by omega)
  obtain ⟨b, off, e, -, ca⟩ := arcs_at (own_row h) (by omega)
  cases e
  refine ⟨g, rfl, hg, ?_, fg⟩
  have q := ca k (by omega)
  rw [Nat.zero_add] at q
  rw [arcAt_get L k (by omega)]
  exact q
theorem made_set {w u : World} {sB g m cap : Nat} {sup : List Int} {arcs : List ArcD} (h : Made w u sB (.slice (some ⟨g, 0, none⟩) m cap) sup arcs) (hl : arcs.length = m) (k j : Nat) (x : Int) (hj : j < 5) (hk : k < m) :
    Made w (u.setCell ⟨g, k * 5 + j, none⟩ (nv x)) sB (.slice (some ⟨g, 0, none⟩) m cap) sup (arcs.set k (setF (arcAt arcs k) j x)) := by
  subst hl
  exact h.arc_set k j x hj hk
/-- At the head of the loop. -/
def TurnRel (W3 : World) (q sB : Nat) (B : Option Addr) (n m cap : Nat) (I : InstD) (s : Value) (u : World) : Prop :=
  ∃ k : Nat, k ≤ m ∧ s = .int .i64 (k : Int) ∧ Made W3 u sB (.slice B m cap) I.sup (turnN I.arcs k) ∧ Blk u q 25 #[.slice (some ⟨sB, 0, none⟩) n n, .slice B m cap]

abbrev SS (W : World) (p q : Nat) (a b c d : Value) (u : World) : Prop := u.cell? ⟨p, 0, none⟩ = some a ∧ u.cell? ⟨p, 1, none⟩ = some b ∧ u.cell? ⟨q, 0, none⟩ = some c ∧ u.cell? ⟨q, 1, none⟩ = some d ∧ Below W.heap.size W u
theorem keep4 {W w w' : World} {p q : Nat} {a b c d : Value} (hp : p < W.heap.size) (hq : q < W.heap.size) (h : SS W p q a b c d w) (hb : Below w.heap.size w w') : SS W p q a b c d w' := by
  obtain ⟨h1, h2, h3, h4, h5⟩ := h
  have z := h5.size
  exact ⟨(hb.cell (p := ⟨p, 0, none⟩) (by show p < _; omega)).trans h1, (hb.cell (p := ⟨p, 1, none⟩) (by show p < _; omega)).trans h2, (hb.cell (p := ⟨q, 0, none⟩) (by show q < _; omega)).trans h3, (hb.cell (p := ⟨q, 1, none⟩) (by show q < _; omega)).trans h4, chain2 h5 hb⟩
theorem strong_cells {l : List Nat} {w w' : World} {e : Ending} {n : Nat} (hn : l.length = n) (h : TellsNats l w e w') : ∃ A cap, e = .returned (.slice A n cap) ∧ Cells w' w'.heap.size A (natV l) ∧ Below w.heap.size w w' := by
  obtain ⟨A, cap, rfl, _, hc, hb, _⟩ := h
  exact ⟨A, cap, by rw [hn], hc, hb⟩
theorem bools_same (a b : Option Addr) (L : List Bool) (k c d : Nat) (hk : L.length = k) (hN : k ≤ 100000) (w : World) (ha : Cells w w.heap.size a (boolV L)) (hb : Cells w w.heap.size b (boolV L)) :
    Calls Try.prog 22 #[.slice a k c, .slice b k d] w fun e w' => e = .returned (.bool true) ∧ Below w.heap.size w w' := by
  have h := rbools_any a b L L k k c d hk hk (by rw [hk]; unfold maxLen; omega) w ha hb
  rw [decide_eq_true rfl] at h
  exact h

set_option maxHeartbeats 16000000 in
theorem turned_walk {W : World} (s : Option Addr) (l c : Nat) (xs : List Nat) (hl : xs.length = l) (h9 : l ≤ 140737488355328) (hx : Octs xs) (hs : Cells W W.heap.size s (octV xs)) (s' : Option Addr) (l' c' : Nat) (ys : List Nat) (hl' : ys.length = l') (h9' : l' ≤ 140737488355328) (hy : Octs ys) (hs' : Cells W W.heap.size s' (octV ys))
    (s'' : Option Addr) (l'' c'' : Nat) (zs : List Nat) (hl'' : zs.length = l'') (h9'' : l'' ≤ 140737488355328) (hz : Octs zs) (hs'' : Cells W W.heap.size s'' (octV zs)) :
    Calls Try.prog 8 #[.slice s l c, .slice s' l' c', .slice s'' l'' c''] W fun e W' => e = .returned (.bool true) ∧ Below W.heap.size W W' := by
  obtain ⟨I, hI⟩ : ∃ I, I = instC xs ys := ⟨_, rfl⟩
  obtain ⟨n, hn⟩ : ∃ n, nodesC ys = n := ⟨_, rfl⟩
  obtain ⟨m, hm⟩ : ∃ m, I.arcs.length = m := ⟨_, rfl⟩
  have i0 : I.sup.length = n := by rw [hI, instC_sup, hn]
  have n7 : n ≤ 7 ∧ 1 ≤ n := by rw [← hn]; exact ⟨(nodesC_bd ys).2, (nodesC_bd ys).1⟩
  have m18 : m ≤ 18 := by rw [← hm, hI]; exact instC_arcs xs ys
  have IN := Lib.hid (fun w (h : Below W.heap.size W w) => inst_here s l c xs hl h9 hx s' l' c' ys hl' h9' hy hI hn hm w (hs.later (Nat.le_refl _) h) (hs'.later (Nat.le_refl _) h))
  have SO := Lib.hid (fun w (h : Below W.heap.size W w) => some_any s'' c'' zs l'' hl'' hz h9'' w (hs''.later (Nat.le_refl _) h))
  obtain ⟨S, hso⟩ : ∃ S, S = someC zs := ⟨_, rfl⟩
  have so6 : S.length ≤ 6 := by rw [hso]; exact someC_length zs
  have SI := Lib.hid (show ∀ x ∈ S, I64 x by rw [hso]; exact someC_small zs)
  obtain ⟨t, ht⟩ : ∃ t, S.length = t := ⟨_, rfl⟩
  rw [← hso, ht] at SO
  rw [ht] at so6
  have HN := Lib.hid i0
  have HM := Lib.hid hm
  have HT := Lib.hid ht
  obtain ⟨n7, n1⟩ := n7
  have KN := Lib.hid (fun u => known_any u)
  clear hI hn hm i0 hs hs' hx hy hs'' hz hso ht
  go_enter Try.func8, Try.ntmps8
  go_wp2_with fail
  refine (IN.out _ (Below.refl _ _)).mono ?_
  rintro e w1 ⟨sA, A, ca, rfl, hM, -, -⟩
  have M1 := Lib.hid hM
  obtain ⟨p, hp⟩ : ∃ p, p = w1.heap.size := ⟨_, rfl⟩
  obtain ⟨W2, hW2⟩ : ∃ W2, W2 = w1.alloc (.cells #[.slice (some ⟨sA, 0, none⟩) n n, .slice A m ca] 25) := ⟨_, rfl⟩
  have M2 := Lib.hid (show Made W W2 sA (.slice A m ca) I.sup I.arcs by rw [hW2]; exact M1.out.alloc _)
  have BP := Lib.hid (show Blk W2 p 25 #[.slice (some ⟨sA, 0, none⟩) n n, .slice A m ca] by rw [hW2]; exact blk_at hp.symm _ _)
  have IN2 := Lib.hid (IN.out _ M2.out.below)
  have HW2 := Lib.hid hW2
  have HP := Lib.hid hp
  clear hM hp hW2 M1 IN
  go_wp2_with fail
  rw [← HW2.out, ← HP.out]
  clear HW2 HP
  refine IN2.out.mono ?_
  rintro e w3 ⟨sB, B, cb, rfl, hM, -, -⟩
  have M3 := Lib.hid hM
  obtain ⟨q, hq⟩ : ∃ q, q = w3.heap.size := ⟨_, rfl⟩
  obtain ⟨W4, hW4⟩ : ∃ W4, W4 = w3.alloc (.cells #[.slice (some ⟨sB, 0, none⟩) n n, .slice B m cb] 25) := ⟨_, rfl⟩
  have M4 := Lib.hid (show Made W2 W4 sB (.slice B m cb) I.sup I.arcs by rw [hW4]; exact M3.out.alloc _)
  have BQ := Lib.hid (show Blk W4 q 25 #[.slice (some ⟨sB, 0, none⟩) n n, .slice B m cb] by rw [hW4]; exact blk_at hq.symm _ _)
  have QN := Lib.hid (show W2.heap.size ≤ q ∧ ∀ g, (Value.slice B m cb).ownBlock = some g → g < q from ⟨by rw [hq]; exact M3.out.below.size, fun g hg => by rw [hq]; exact own_lt M3.out.arcs g hg⟩)
  have HW4 := Lib.hid hW4
  have HQ := Lib.hid hq
  clear hM hq hW4 M3 IN2
  go_wp2_with fail
  rw [← HW4.out, ← HQ.out]
  clear HW4 HQ
  go_loopw [9] (fun s u => TurnRel W2 q sB B n m cb I s u) (fun s _ => m - (intOf s).toNat)
  case atStart => exact ⟨0, by omega, rfl, (by rw [turnN_zero]; exact M4.out), BQ.out⟩
  case round =>
    obtain ⟨k, hk, rfl, hM, hQ⟩ := hrel
    have MJ := Lib.hid hM
    have MI := Lib.hid (M2.out.step hM.below)
    have BP2 := Lib.hid (BP.out.below hM.below BP.out.lt)
    have BQ2 := Lib.hid hQ
    have x0 := BP2.out.cell 0
    have x1 := BP2.out.cell 1
    have x2 := BP2.out.lt
    have y0 := BQ2.out.cell 0
    have y1 := BQ2.out.cell 1
    have y2 := BQ2.out.lt
    simp at x0 x1 y0 y1
    clear hM hQ
    have oI : wr.ownsRow W.heap.size 37 5 (.slice A m ca) m (arcV I.arcs) := by have q := MI.out.arcs; rw [HM.out] at q; exact q
    have oJ : wr.ownsRow W2.heap.size 37 5 (.slice B m cb) m (arcV (turnN I.arcs k)) := by have q := MJ.out.arcs; rw [turnN_length, HM.out] at q; exact q
    by_cases hlt : k < m
    · have tl : (turnN I.arcs k).length = m := by rw [turnN_length]; exact HM.out
      obtain ⟨gI, eI, lI, ⟨a0, a1, -, -, -⟩, -⟩ := arc_cells oI HM.out k hlt
      obtain ⟨gJ, eJ, lJ, ⟨b0, b1, -, -, -⟩, fJ⟩ := arc_cells oJ tl k hlt
      have gne : gI < W2.heap.size ∧ W2.heap.size ≤ gJ := by
        subst eI eJ
        exact ⟨own_lt (show W2.ownsRow W.heap.size 37 5 _ _ _ from M2.out.arcs) gI rfl, own_ge oJ gJ rfl⟩
      subst eI eJ
      have f0 := fJ (k * 5)
      have f1 := fJ (k * 5 + 1)
      obtain ⟨xI, hxI⟩ : ∃ x, x = arcAt I.arcs k := ⟨_, rfl⟩
      obtain ⟨xJ, hxJ⟩ : ∃ x, x = arcAt (turnN I.arcs k) k := ⟨_, rfl⟩
      rw [← hxI] at a0 a1
      rw [← hxJ] at b0 b1
      have HXI := Lib.hid hxI
      have HXJ := Lib.hid hxJ
      have TL := Lib.hid tl
      have GN := Lib.hid gne
      have FJ := Lib.hid fJ
      clear oI oJ tl gne fJ hxI hxJ
      go_wp2_with fail
      go_region
      obtain ⟨u1, hu1⟩ : ∃ u1, u1 = (wr.setCell ⟨gJ, k * 5, none⟩ (.int .i64 xI.to)).drew := ⟨_, rfl⟩
      rw [← hu1]
      have MJ1 := Lib.hid (show Made W2 u1 sB (.slice (some ⟨gJ, 0, none⟩) m cb) I.sup ((turnN I.arcs k).set k (setF (arcAt (turnN I.arcs k) k) 0 xI.to)) by rw [hu1]; exact (made_set MJ.out TL.out k 0 xI.to (by omega) hlt).drew)
      have BQ1 := Lib.hid (show Blk u1 q 25 #[.slice (some ⟨sB, 0, none⟩) n n, .slice (some ⟨gJ, 0, none⟩) m cb] by rw [hu1]; exact (BQ2.out.far (by have := QN.out.2 gJ rfl; show q ≠ gJ; omega) _).drew)
      have MI1 := Lib.hid (M2.out.step MJ1.out.below)
      have BP1 := Lib.hid (BP.out.below MJ1.out.below BP.out.lt)
      have oI : u1.ownsRow W.heap.size 37 5 (.slice (some ⟨gI, 0, none⟩) m ca) m (arcV I.arcs) := by have q := MI1.out.arcs; rw [HM.out] at q; exact q
      have TL1 := Lib.hid (show ((turnN I.arcs k).set k (setF (arcAt (turnN I.arcs k) k) 0 xI.to)).length = m by rw [List.length_set]; exact TL.out)
      have oJ : u1.ownsRow W2.heap.size 37 5 (.slice (some ⟨gJ, 0, none⟩) m cb) m (arcV ((turnN I.arcs k).set k (setF (arcAt (turnN I.arcs k) k) 0 xI.to))) := by have q := MJ1.out.arcs; rw [TL1.out] at q; exact q
      obtain ⟨g1, e1, lI1, ⟨c0, c1, -, -, -⟩, -⟩ := arc_cells oI HM.out k hlt
      cases e1
      obtain ⟨g2, e2, lJ1, ⟨d0, d1, -, -, -⟩, fJ1⟩ := arc_cells oJ TL1.out k hlt
      cases e2
      have f2 := fJ1 (k * 5 + 1)
      rw [← HXI.out] at c0 c1
      obtain ⟨yJ, hyJ⟩ : ∃ y, y = arcAt ((turnN I.arcs k).set k (setF (arcAt (turnN I.arcs k) k) 0 xI.to)) k := ⟨_, rfl⟩
      rw [← hyJ] at d0 d1
      clear hu1 oI oJ fJ1 hyJ f0 f1 a0 a1 b0 b1 x0 x1 x2 y0 y1 y2 lI lJ
      have x0 := BP1.out.cell 0
      have x1 := BP1.out.cell 1
      have x2 := BP1.out.lt
      have y0 := BQ1.out.cell 0
      have y1 := BQ1.out.cell 1
      have y2 := BQ1.out.lt
      simp at x0 x1 y0 y1
      go_wp2_with fail
      go_region
      go_wp2_with fail
      refine ⟨⟨k + 1, by omega, by simp, ?_, ?_⟩, by simp [intOf]; omega⟩
      · have q := (made_set MJ1.out TL1.out k 1 xI.frm (by omega) hlt).drew
        rw [HXI.out, turnN_step I.arcs k (by rw [HM.out]; exact hlt)] at q
        rw [HXI.out]
        exact q
      · exact (BQ1.out.far (by have := QN.out.2 gJ rfl; show q ≠ gJ; omega) _).drew
    · obtain rfl : k = m := by omega
      have HI := Made.here MI.out (I := I) HN.out HM.out (by omega) (by omega)
      have HJ := (show Here wr (some ⟨sB, 0, none⟩) B n k (turnD I) from Made.here (I := turnD I) (by have q := MJ.out; rw [← HM.out] at q ⊢; rw [turnN_all] at q; exact q) HN.out (by show (I.arcs.map turnA).length = _; rw [List.length_map]; exact HM.out) (by omega) (by omega))
      have BWr := chain2 M2.out.below MJ.out.below
      have VI0 : IVar wr p (some ⟨sA, 0, none⟩) A n ca n k I := ⟨BP2.out, HI⟩
      have VJ0 : IVar wr q (some ⟨sB, 0, none⟩) B n cb n k (turnD I) := ⟨BQ2.out, HJ⟩
      have VI := Lib.hid (fun u (hu : Below wr.heap.size wr u) => VI0.later hu)
      have VJ := Lib.hid (fun u (hu : Below wr.heap.size wr u) => VJ0.later hu)
      have BW := Lib.hid BWr
      have SO2 := Lib.hid (SO.out wr BWr)
      have ta : ¬ ((k : Int) < (k : Int)) := by omega
      clear HI HJ BWr VI0 VJ0 SO oI oJ MI MJ M2 M4 BP BQ BP2 BQ2 QN
      go_wp2_with fail
      refine SO2.out.mono ?_
      rintro e u0 ⟨v, rfl, ho, hb⟩
      obtain ⟨-, SA, sc, rfl, -, -, hsc⟩ := own_cells ho
      have H0 := Lib.hid hb
      have SC := Lib.hid (fun u (hu : Below u0.heap.size u0 u) => hsc.later (Nat.le_refl _) hu)
      have UI := Lib.hid (fun u (hu : Below u0.heap.size u0 u) => (VI.out u (chain2 H0.out hu)).is)
      have UJ := Lib.hid (fun u (hu : Below u0.heap.size u0 u) => (VJ.out u (chain2 H0.out hu)).is)
      have ln := Lib.hid (show (fromL I S).length = n from (fromL_len I S).trans HN.out)
      have lt := Lib.hid (show (toL I S).length = n from (toL_len I S).trans HN.out)
      have ls := Lib.hid (show (strongL I).length = n from (strongL_length I).trans HN.out)
      have lb := Lib.hid (show (backL I).length = k from (backL_length I).trans HM.out)
      have FI := Lib.hid (fun u (h : SS u0 p q (.slice (some ⟨sA, 0, none⟩) n n) (.slice A k ca) (.slice (some ⟨sB, 0, none⟩) n n) (.slice B k cb) u) => (from_any _ _ SA n ca sc n k t I S u (UI.out u h.2.2.2.2) (by omega) (by omega) SI.out HT.out (by omega) (SC.out u h.2.2.2.2)).mono fun e w' g => marks_cells ln.out g)
      have TJ := Lib.hid (fun u (h : SS u0 p q (.slice (some ⟨sA, 0, none⟩) n n) (.slice A k ca) (.slice (some ⟨sB, 0, none⟩) n n) (.slice B k cb) u) => (show _ from ((turn_to I S) ▸ to_any _ _ SA n cb sc n k t (turnD I) S u (UJ.out u h.2.2.2.2) (by omega) (by omega) SI.out HT.out (by omega) (SC.out u h.2.2.2.2))).mono fun e w' g => marks_cells ln.out g)
      have TI := Lib.hid (fun u (h : SS u0 p q (.slice (some ⟨sA, 0, none⟩) n n) (.slice A k ca) (.slice (some ⟨sB, 0, none⟩) n n) (.slice B k cb) u) => (to_any _ _ SA n ca sc n k t I S u (UI.out u h.2.2.2.2) (by omega) (by omega) SI.out HT.out (by omega) (SC.out u h.2.2.2.2)).mono fun e w' g => marks_cells lt.out g)
      have FJ := Lib.hid (fun u (h : SS u0 p q (.slice (some ⟨sA, 0, none⟩) n n) (.slice A k ca) (.slice (some ⟨sB, 0, none⟩) n n) (.slice B k cb) u) => (show _ from ((turn_from I S) ▸ from_any _ _ SA n cb sc n k t (turnD I) S u (UJ.out u h.2.2.2.2) (by omega) (by omega) SI.out HT.out (by omega) (SC.out u h.2.2.2.2))).mono fun e w' g => marks_cells lt.out g)
      have GI := Lib.hid (fun u (h : SS u0 p q (.slice (some ⟨sA, 0, none⟩) n n) (.slice A k ca) (.slice (some ⟨sB, 0, none⟩) n n) (.slice B k cb) u) => (Strong_any _ _ n ca n k I u (UI.out u h.2.2.2.2) (by omega) (by omega)).mono fun e w' g => strong_cells ls.out g)
      have GJ := Lib.hid (fun u (h : SS u0 p q (.slice (some ⟨sA, 0, none⟩) n n) (.slice A k ca) (.slice (some ⟨sB, 0, none⟩) n n) (.slice B k cb) u) => (show _ from ((turn_strong I) ▸ Strong_any _ _ n cb n k (turnD I) u (UJ.out u h.2.2.2.2) (by omega) (by omega))).mono fun e w' g => strong_cells ls.out g)
      have KI := Lib.hid (fun u (h : SS u0 p q (.slice (some ⟨sA, 0, none⟩) n n) (.slice A k ca) (.slice (some ⟨sB, 0, none⟩) n n) (.slice B k cb) u) => (Back_any _ _ n ca n k I u (UI.out u h.2.2.2.2) (by omega) (by omega)).mono fun e w' g => marks_cells lb.out g)
      have KJ := Lib.hid (fun u (h : SS u0 p q (.slice (some ⟨sA, 0, none⟩) n n) (.slice A k ca) (.slice (some ⟨sB, 0, none⟩) n n) (.slice B k cb) u) => (show _ from ((turn_back I) ▸ Back_any _ _ n cb n k (turnD I) u (UJ.out u h.2.2.2.2) (by omega) (by omega))).mono fun e w' g => marks_cells lb.out g)
      have BN := Lib.hid (fun u A B c d ha hb => bools_same A B (fromL I S) n c d ln.out (by omega) u ha hb)
      have BT := Lib.hid (fun u A B c d ha hb => bools_same A B (toL I S) n c d lt.out (by omega) u ha hb)
      have BS := Lib.hid (fun u A B c d ha hb => ints_same A B (strongL I) n c d ls.out (by omega) u ha hb)
      have BB := Lib.hid (fun u A B c d ha hb => bools_same A B (backL I) k c d lb.out (by omega) u ha hb)
      clear ho hb hsc SO2 x0 x1 x2 y0 y1 y2
      obtain ⟨x0, x1, x2⟩ := (VI.out _ H0.out).cells
      obtain ⟨y0, y1, y2⟩ := (VJ.out _ H0.out).cells
      go_wp2_with fail
      go_region_held3 (fun u => u.cell? ⟨p, 0, none⟩ = some (.slice (some ⟨sA, 0, none⟩) n n) ∧ u.cell? ⟨p, 1, none⟩ = some (.slice A k ca) ∧ u.cell? ⟨q, 0, none⟩ = some (.slice (some ⟨sB, 0, none⟩) n n) ∧ u.cell? ⟨q, 1, none⟩ = some (.slice B k cb) ∧ Below u0.heap.size u0 u)
        (first | exact ⟨x0, x1, y0, y1, (Below.refl _ _).drew⟩ | exact keep4 x2 y2 ⟨x0, x1, y0, y1, (Below.refl _ _).drew⟩ hb | exact keep4 x2 y2 (by assumption) hb)
        (first
          | (go_at_call 11; (refine (KN.out _).mono ?_); rintro e wn ⟨rfl, hb⟩)
          | (go_at_call 16; (with_reducible refine (FI.out _ (by assumption)).mono ?_); rintro e wa1 ⟨FA1, fa1, rfl, hcc, hb⟩; have A1 := Lib.hid hcc; clear hcc)
          | (go_at_call 17; (with_reducible refine (TJ.out _ (by assumption)).mono ?_); rintro e wb1 ⟨FB1, fb1, rfl, hcc, hb⟩; have B1 := Lib.hid hcc; have C1 := Lib.hid (A1.out.later (Nat.le_refl _) hb); clear hcc)
          | (go_at_call 22; (with_reducible refine (BN.out _ _ _ _ _ C1.out B1.out).mono ?_); rintro e wc1 ⟨rfl, hb⟩)
          | (go_at_call 17; (with_reducible refine (TI.out _ (by assumption)).mono ?_); rintro e wa2 ⟨FA2, fa2, rfl, hcc, hb⟩; have A2 := Lib.hid hcc; clear hcc)
          | (go_at_call 16; (with_reducible refine (FJ.out _ (by assumption)).mono ?_); rintro e wb2 ⟨FB2, fb2, rfl, hcc, hb⟩; have B2 := Lib.hid hcc; have C2 := Lib.hid (A2.out.later (Nat.le_refl _) hb); clear hcc)
          | (go_at_call 22; (with_reducible refine (BT.out _ _ _ _ _ C2.out B2.out).mono ?_); rintro e wc2 ⟨rfl, hb⟩)
          | (go_at_call 18; (with_reducible refine (GI.out _ (by assumption)).mono ?_); rintro e wa3 ⟨FA3, fa3, rfl, hcc, hb⟩; have A3 := Lib.hid hcc; clear hcc)
          | (go_at_call 18; (with_reducible refine (GJ.out _ (by assumption)).mono ?_); rintro e wb3 ⟨FB3, fb3, rfl, hcc, hb⟩; have B3 := Lib.hid hcc; have C3 := Lib.hid (A3.out.later (Nat.le_refl _) hb); clear hcc)
          | (go_at_call 23; (with_reducible refine (BS.out _ _ _ _ _ C3.out B3.out).mono ?_); rintro e wc3 ⟨rfl, hb⟩)
          | (go_at_call 19; (with_reducible refine (KI.out _ (by assumption)).mono ?_); rintro e wa4 ⟨FA4, fa4, rfl, hcc, hb⟩; have A4 := Lib.hid hcc; clear hcc)
          | (go_at_call 19; (with_reducible refine (KJ.out _ (by assumption)).mono ?_); rintro e wb4 ⟨FB4, fb4, rfl, hcc, hb⟩; have B4 := Lib.hid hcc; have C4 := Lib.hid (A4.out.later (Nat.le_refl _) hb); clear hcc)
          | (go_at_call 22; (with_reducible refine (BB.out _ _ _ _ _ C4.out B4.out).mono ?_); rintro e wc4 ⟨rfl, hb⟩))
      all_goals
        rename_i hs
        have H9 := Lib.hid (show Below u0.heap.size u0 _ from hs.2.2.2.2)
        clear hs
        go_wp2_with fail
        go_ret
        exact ⟨rfl, chain2 BW.out (chain2 H0.out H9.out)⟩
end Go.Proofs.Yticaficolgbjkaa.Rch

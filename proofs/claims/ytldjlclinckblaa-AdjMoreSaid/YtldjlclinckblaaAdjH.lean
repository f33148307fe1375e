/- The law AdjTurned: its walk. -/
import Derived.Test.YtldjlclinckblaaAdjF
import Derived.Test.YtldjlclinckblaaAdjMathB
namespace Go.Proofs.Ytldjlclinckblaa.Adj
open Go.RowKit Go.Proofs.Ytldjlclinckblaa.Inst

theorem arc_cells {w : World} {base m cap : Nat} {A : Option Addr} {L : List ArcD} (h : w.ownsRow base 41 5 (.slice A m cap) m (arcV L)) (hL : L.length = m) (k : Nat) (hk : k < m) :
    ∃ g, A = some ⟨g, 0, none⟩ ∧ g < w.heap.size ∧ ArcAt w g (k * 5) (arcAt L k) ∧ ∀ i, w.frozen? ⟨g, i, none⟩ = false := by
  obtain ⟨g, rfl, hg, -, fg⟩ := own_at h (by omega)
  obtain ⟨b, off, e, -, ca⟩ := arcs_at (own_row h) (by omega)
  cases e
  refine ⟨g, rfl, hg, ?_, fg⟩
  have q := ca k (by omega)
  rw [Nat.zero_add] at q
  rw [arcAt_get L k (by omega)]
  exact q
theorem made_set {w u : World} {sB g m cap : Nat} {sup : List Int} {arcs : List ArcD} (h : Made w u sB (.slice (some ⟨g, 0, none⟩) m cap) sup arcs) (hl : arcs.length = m) (k j : Nat) (x : Int) (hj : j < 5) (hk : k < m) :
    Made w (u.setCell ⟨g, k * 5 + j, none⟩ (nv x)) sB (.slice (some ⟨g, 0, none⟩) m cap) sup (arcs.set k (setF (arcAt arcs k) j x)) := by
  subst hl
  exact h.arc_set k j x hj hk
/-- At the head of the first loop. -/
def TurnRel (W3 : World) (q sB : Nat) (B : Option Addr) (n m cap : Nat) (I : InstD) (s : Value) (u : World) : Prop :=
  ∃ k : Nat, k ≤ m ∧ s = .int .i64 (k : Int) ∧ Made W3 u sB (.slice B m cap) I.sup (turnN I.arcs k) ∧ Blk u q 25 #[.slice (some ⟨sB, 0, none⟩) n n, .slice B m cap]
/-- At the head of the second loop. -/
def TurnRel2 (W : World) (n : Nat) (s : Value) (u : World) : Prop := ∃ k : Nat, k ≤ n ∧ s = .int .i64 (k : Int) ∧ Below W.heap.size W u

set_option maxRecDepth 100000 in
set_option maxHeartbeats 8000000 in
theorem turned_walk {Gr : World → Nat → InstD → Prop} (C : AdjC Gr) {W : World} (s : Option Addr) (l c : Nat) (xs : List Nat) (hl : xs.length = l) (h9 : l ≤ 140737488355328) (hx : Octs xs) (hs : Cells W W.heap.size s (octV xs)) (s' : Option Addr) (l' c' : Nat) (ys : List Nat) (hl' : ys.length = l') (h9' : l' ≤ 140737488355328) (hy : Octs ys) (hs' : Cells W W.heap.size s' (octV ys)) :
    Calls Try.prog 7 #[.slice s l c, .slice s' l' c'] W fun e W' => e = .returned (.bool true) ∧ Below W.heap.size W W' := by
  have IN := Lib.hid (fun w' (h : Below W.heap.size W w') => inst_any s s' c c' xs ys hx hy (by omega) (by omega) w' (hs.later (Nat.le_refl _) h) (hs'.later (Nat.le_refl _) h))
  rw [hl, hl'] at IN
  obtain ⟨I, hI⟩ : ∃ I, I = instC xs ys := ⟨_, rfl⟩
  have i0 := instC_sup xs ys
  have i1 := instC_arcs xs ys
  have i2 := nodesC_bd ys
  rw [← hI] at IN i0 i1
  obtain ⟨n, hn⟩ : ∃ n, n = nodesC ys := ⟨_, rfl⟩
  rw [← hn] at IN i0 i2
  obtain ⟨m, hm⟩ : ∃ m, m = I.arcs.length := ⟨_, rfl⟩
  rw [← hm] at i1
  have HN := Lib.hid i0
  have HM := Lib.hid hm.symm
  obtain ⟨n1, n7⟩ := i2
  have KN := Lib.hid (fun w => known_any C w)
  have NW := Lib.hid (fun w (A : Option Addr) (B : Option Addr) (cc dd : Nat) (h : Here w A B n m I) => C.new A B cc dd n m I w h (by omega) (by omega))
  have NT := Lib.hid (fun w (A : Option Addr) (B : Option Addr) (cc dd : Nat) (h : Here w A B n m (turnD I)) => C.new A B cc dd n m (turnD I) w h (by omega) (by omega))
  have LA := Lib.hid (fun (w u : World) (b : Nat) (J : InstD) (h : Gr w b J) (hb : Below w.heap.size w u) => C.later h hb)
  clear hI hn hm i0 hs hs' hx hy
  go_enter Try.func7, Try.ntmps7
  go_upto_region 2 with (go_at_call 11; (with_reducible refine (IN.out _ (Below.refl _ _)).mono ?_); rintro e w1 ⟨sA, aV, rfl, hM⟩; obtain ⟨-, A, ca, ea, -, -, -⟩ := own_cells hM.arcs; subst ea; rw [HM.out] at hM; rw [HM.out]; have M1 := Lib.hid hM; clear hM)
  obtain ⟨p, hp⟩ : ∃ p, p = w1.heap.size := ⟨_, rfl⟩
  obtain ⟨W2, hW2⟩ : ∃ W2, W2 = w1.alloc (.cells #[.slice (some ⟨sA, 0, none⟩) n n, .slice A m ca] 25) := ⟨_, rfl⟩
  have M2 := Lib.hid (show Made W W2 sA (.slice A m ca) I.sup I.arcs by rw [hW2]; exact M1.out.alloc _)
  have BP := Lib.hid (show Blk W2 p 25 #[.slice (some ⟨sA, 0, none⟩) n n, .slice A m ca] by rw [hW2]; exact blk_at hp.symm _ _)
  rw [← hW2, ← hp]
  clear hp hW2 M1
  go_upto_region 3 with (go_at_call 11; (with_reducible refine (IN.out _ M2.out.below).mono ?_); rintro e w3 ⟨sB, aV, rfl, hM⟩; obtain ⟨-, B, cb, ea, -, -, -⟩ := own_cells hM.arcs; subst ea; rw [HM.out] at hM; rw [HM.out]; have M3 := Lib.hid hM; clear hM)
  obtain ⟨q, hq⟩ : ∃ q, q = w3.heap.size := ⟨_, rfl⟩
  obtain ⟨W4, hW4⟩ : ∃ W4, W4 = w3.alloc (.cells #[.slice (some ⟨sB, 0, none⟩) n n, .slice B m cb] 25) := ⟨_, rfl⟩
  have M4 := Lib.hid (show Made W2 W4 sB (.slice B m cb) I.sup I.arcs by rw [hW4]; exact M3.out.alloc _)
  have BQ := Lib.hid (show Blk W4 q 25 #[.slice (some ⟨sB, 0, none⟩) n n, .slice B m cb] by rw [hW4]; exact blk_at hq.symm _ _)
  have QN := Lib.hid (show W2.heap.size ≤ q ∧ ∀ g, (Value.slice B m cb).ownBlock = some g → g < q from ⟨by rw [hq]; exact M3.out.below.size, fun g hg => by rw [hq]; exact own_lt M3.out.arcs g hg⟩)
  rw [← hW4, ← hq]
  clear hq hW4 M3
  go_wp2_with fail
  go_loopw [7] (fun s u => TurnRel W2 q sB B n m cb I s u) (fun s _ => m - (intOf s).toNat)
  case atStart => exact ⟨0, by omega, rfl, (by rw [turnN_zero]; exact M4.out), BQ.out⟩
  case round =>
    obtain ⟨k, hk, rfl, hM, hQ⟩ := hrel
    have MJ := Lib.hid hM
    have MI := Lib.hid (M2.out.step hM.below)
    have BP2 := Lib.hid (BP.out.below hM.below BP.out.lt)
    have BQ2 := Lib.hid hQ
    have x0 := BP2.out.cell 0
    have x1 := BP2.out.cell 1
    have x2 := BP2.out.lt
    have y0 := BQ2.out.cell 0
    have y1 := BQ2.out.cell 1
    have y2 := BQ2.out.lt
    simp at x0 x1 y0 y1
    clear hM hQ
    have oI : wr.ownsRow W.heap.size 41 5 (.slice A m ca) m (arcV I.arcs) := by have q := MI.out.arcs; rw [HM.out] at q; exact q
    have oJ : wr.ownsRow W2.heap.size 41 5 (.slice B m cb) m (arcV (turnN I.arcs k)) := by have q := MJ.out.arcs; rw [turnN_length, HM.out] at q; exact q
    by_cases hlt : k < m
    · have tl : (turnN I.arcs k).length = m := by rw [turnN_length]; exact HM.out
      obtain ⟨gI, eI, lI, ⟨a0, a1, -, -, -⟩, -⟩ := arc_cells oI HM.out k hlt
      obtain ⟨gJ, eJ, lJ, ⟨b0, b1, -, -, -⟩, fJ⟩ := arc_cells oJ tl k hlt
      have gne : gI < W2.heap.size ∧ W2.heap.size ≤ gJ := by
        subst eI eJ
        exact ⟨own_lt (show W2.ownsRow W.heap.size 41 5 _ _ _ from M2.out.arcs) gI rfl, own_ge oJ gJ rfl⟩
      subst eI eJ
      have f0 := fJ (k * 5)
      have f1 := fJ (k * 5 + 1)
      obtain ⟨xI, hxI⟩ : ∃ x, x = arcAt I.arcs k := ⟨_, rfl⟩
      obtain ⟨xJ, hxJ⟩ : ∃ x, x = arcAt (turnN I.arcs k) k := ⟨_, rfl⟩
      rw [← hxI] at a0 a1
      rw [← hxJ] at b0 b1
      have HXI := Lib.hid hxI
      have HXJ := Lib.hid hxJ
      have TL := Lib.hid tl
      have GN := Lib.hid gne
      have FJ := Lib.hid fJ
      clear oI oJ tl gne fJ hxI hxJ
      go_wp2_with fail
      go_region
      obtain ⟨u1, hu1⟩ : ∃ u1, u1 = (wr.setCell ⟨gJ, k * 5, none⟩ (.int .i64 xI.to)).drew := ⟨_, rfl⟩
      rw [← hu1]
      have MJ1 := Lib.hid (show Made W2 u1 sB (.slice (some ⟨gJ, 0, none⟩) m cb) I.sup ((turnN I.arcs k).set k (setF (arcAt (turnN I.arcs k) k) 0 xI.to)) by rw [hu1]; exact (made_set MJ.out TL.out k 0 xI.to (by omega) hlt).drew)
      have BQ1 := Lib.hid (show Blk u1 q 25 #[.slice (some ⟨sB, 0, none⟩) n n, .slice (some ⟨gJ, 0, none⟩) m cb] by rw [hu1]; exact (BQ2.out.far (by have := QN.out.2 gJ rfl; show q ≠ gJ; omega) _).drew)
      have MI1 := Lib.hid (M2.out.step MJ1.out.below)
      have BP1 := Lib.hid (BP.out.below MJ1.out.below BP.out.lt)
      have oI : u1.ownsRow W.heap.size 41 5 (.slice (some ⟨gI, 0, none⟩) m ca) m (arcV I.arcs) := by have q := MI1.out.arcs; rw [HM.out] at q; exact q
      have TL1 := Lib.hid (show ((turnN I.arcs k).set k (setF (arcAt (turnN I.arcs k) k) 0 xI.to)).length = m by rw [List.length_set]; exact TL.out)
      have oJ : u1.ownsRow W2.heap.size 41 5 (.slice (some ⟨gJ, 0, none⟩) m cb) m (arcV ((turnN I.arcs k).set k (setF (arcAt (turnN I.arcs k) k) 0 xI.to))) := by have q := MJ1.out.arcs; rw [TL1.out] at q; exact q
      obtain ⟨g1, e1, lI1, ⟨c0, c1, -, -, -⟩, -⟩ := arc_cells oI HM.out k hlt
      cases e1
      obtain ⟨g2, e2, lJ1, ⟨d0, d1, -, -, -⟩, fJ1⟩ := arc_cells oJ TL1.out k hlt
      cases e2
      have f2 := fJ1 (k * 5 + 1)
      rw [← HXI.out] at c0 c1
      obtain ⟨yJ, hyJ⟩ : ∃ y, y = arcAt ((turnN I.arcs k).set k (setF (arcAt (turnN I.arcs k) k) 0 xI.to)) k := ⟨_, rfl⟩
      rw [← hyJ] at d0 d1
      clear hu1 oI oJ fJ1 hyJ f0 f1 a0 a1 b0 b1 x0 x1 x2 y0 y1 y2 lI lJ
      have x0 := BP1.out.cell 0
      have x1 := BP1.out.cell 1
      have x2 := BP1.out.lt
      have y0 := BQ1.out.cell 0
      have y1 := BQ1.out.cell 1
      have y2 := BQ1.out.lt
      simp at x0 x1 y0 y1
      go_wp2_with fail
      go_region
      go_wp2_with fail
      refine ⟨⟨k + 1, by omega, by simp, ?_, ?_⟩, by simp [intOf]; omega⟩
      · have q := (made_set MJ1.out TL1.out k 1 xI.frm (by omega) hlt).drew
        rw [HXI.out, turnN_step I.arcs k (by rw [HM.out]; exact hlt)] at q
        rw [HXI.out]
        exact q
      · exact (BQ1.out.far (by have := QN.out.2 gJ rfl; show q ≠ gJ; omega) _).drew
    · obtain rfl : k = m := by omega
      have HI := Lib.hid (Made.here MI.out (I := I) HN.out HM.out (by omega) (by omega))
      have HJ := Lib.hid (show Here wr (some ⟨sB, 0, none⟩) B n k (turnD I) from Made.here (I := turnD I) (by have q := MJ.out; rw [← HM.out] at q ⊢; rw [turnN_all] at q; exact q) HN.out (by show (I.arcs.map turnA).length = _; rw [List.length_map]; exact HM.out) (by omega) (by omega))
      have BWr := Lib.hid (chain2 M2.out.below MJ.out.below)
      clear oI oJ
      have ta : ¬ ((k : Int) < (k : Int)) := by omega
      have NG := Lib.hid (NW.out wr _ _ n ca HI.out)
      have NH := Lib.hid (fun u (h : Below wr.heap.size wr u) => NT.out u _ _ n cb (HJ.out.later h))
      have YQ := Lib.hid (fun u (h : Below wr.heap.size wr u) => (show u.cell? ⟨q, 0, none⟩ = some (.slice (some ⟨sB, 0, none⟩) n n) ∧ u.cell? ⟨q, 1, none⟩ = some (.slice B k cb) ∧ q < u.heap.size from ⟨(BQ2.out.below h BQ2.out.lt).cell 0, (BQ2.out.below h BQ2.out.lt).cell 1, (BQ2.out.below h BQ2.out.lt).lt⟩))
      have YP := Lib.hid (fun u (h : Below wr.heap.size wr u) => (show u.cell? ⟨p, 0, none⟩ = some (.slice (some ⟨sA, 0, none⟩) n n) ∧ u.cell? ⟨p, 1, none⟩ = some (.slice A k ca) ∧ p < u.heap.size from ⟨(BP2.out.below h BP2.out.lt).cell 0, (BP2.out.below h BP2.out.lt).cell 1, (BP2.out.below h BP2.out.lt).lt⟩))
      go_wp2_with (first
        | (go_at_call 13; (with_reducible refine NG.out.mono ?_); rintro e w5 ⟨g, rfl, hg, hb⟩; have G5 := Lib.hid hg; have HB5 := Lib.hid hb; obtain ⟨z0, z1, z2⟩ := YQ.out _ hb; clear hg hb)
        | (go_at_call 13; (with_reducible refine (NH.out _ HB5.out).mono ?_); rintro e w6 ⟨h, rfl, hg, hb⟩; have H6 := Lib.hid hg; have G6 := Lib.hid (LA.out _ _ _ _ G5.out hb); have HB6 := Lib.hid (chain2 HB5.out hb); clear hg hb))
      have BW6 := Lib.hid (chain2 BWr.out HB6.out)
      have YP6 := Lib.hid (fun u (h : Below w6.heap.size w6 u) => YP.out u (chain2 HB6.out h))
      clear YP YQ NG NH NW NT IN HI HJ M2 M4 BP BQ QN MJ MI BP2 BQ2 x0 x1 x2 y0 y1 y2 z0 z1 z2 HB5 HB6 G5 BWr ta
      go_loopw [10] (fun s u => TurnRel2 w6 n s u) (fun s _ => n - (intOf s).toNat)
      case atStart => exact ⟨0, by omega, rfl, Below.refl _ _⟩
      case round =>
        obtain ⟨j, hj, rfl, hb0⟩ := hrel
        obtain ⟨x0, x1, x2⟩ := YP6.out _ hb0
        have HB := Lib.hid hb0
        clear hb0
        by_cases hlt : j < n
        · have jb : I64 (j : Int) := I64_small (by omega) (by omega)
          have m9 : I.arcs.length ≤ 1000 := by rw [HM.out]; omega
          obtain ⟨lo, hlo⟩ : ∃ l, someD I (j : Int) true false = l := ⟨_, rfl⟩
          obtain ⟨li, hli⟩ : ∃ l, someD I (j : Int) false true = l := ⟨_, rfl⟩
          obtain ⟨lt, hlt2⟩ : ∃ l, someD I (j : Int) true true = l := ⟨_, rfl⟩
          obtain ⟨lp, hlp⟩ : ∃ l : Int, (loopsD I (j : Int) : Int) = l := ⟨_, rfl⟩
          have lo9 : lo.length ≤ 1000 := by rw [← hlo]; exact some_1000 _ _ _ _ m9
          have li9 : li.length ≤ 1000 := by rw [← hli]; exact some_1000 _ _ _ _ m9
          have lt9 : lt.length ≤ 1000 := by rw [← hlt2]; exact some_1000 _ _ _ _ m9
          have el : (lp == lp) = true := by simp
          have O1 := Lib.hid (fun u (hb : Below w6.heap.size w6 u) => (show Calls Try.prog 15 #[.pointer (some ⟨g, 0, none⟩), .int .i64 (j : Int)] u (TellsNats lo u) from by rw [← hlo]; exact C.out g I j u (C.later G6.out hb) jb))
          have O2 := Lib.hid (fun u (hb : Below w6.heap.size w6 u) => (show Calls Try.prog 17 #[.pointer (some ⟨h, 0, none⟩), .int .i64 (j : Int)] u (TellsNats lo u) from by rw [← hlo, ← some_turn]; exact C.in_ h (turnD I) j u (C.later H6.out hb) jb))
          have O3 := Lib.hid (fun u (hb : Below w6.heap.size w6 u) => (show Calls Try.prog 17 #[.pointer (some ⟨g, 0, none⟩), .int .i64 (j : Int)] u (TellsNats li u) from by rw [← hli]; exact C.in_ g I j u (C.later G6.out hb) jb))
          have O4 := Lib.hid (fun u (hb : Below w6.heap.size w6 u) => (show Calls Try.prog 15 #[.pointer (some ⟨h, 0, none⟩), .int .i64 (j : Int)] u (TellsNats li u) from by rw [← hli, ← some_turn]; exact C.out h (turnD I) j u (C.later H6.out hb) jb))
          have O5 := Lib.hid (fun u (hb : Below w6.heap.size w6 u) => (show Calls Try.prog 18 #[.pointer (some ⟨g, 0, none⟩), .int .i64 (j : Int)] u (TellsNats lt u) from by rw [← hlt2]; exact C.at_ g I j u (C.later G6.out hb) jb))
          have O6 := Lib.hid (fun u (hb : Below w6.heap.size w6 u) => (show Calls Try.prog 18 #[.pointer (some ⟨h, 0, none⟩), .int .i64 (j : Int)] u (TellsNats lt u) from by rw [← hlt2, ← some_turn]; exact C.at_ h (turnD I) j u (C.later H6.out hb) jb))
          have L1 := Lib.hid (fun u (hb : Below w6.heap.size w6 u) => (show Calls Try.prog 19 #[.pointer (some ⟨g, 0, none⟩), .int .i64 (j : Int)] u (fun e w' => e = .returned (.int .i64 lp) ∧ Below u.heap.size u w') from by rw [← hlp]; exact C.loops g I j u (C.later G6.out hb) jb))
          have L2 := Lib.hid (fun u (hb : Below w6.heap.size w6 u) => (show Calls Try.prog 19 #[.pointer (some ⟨h, 0, none⟩), .int .i64 (j : Int)] u (fun e w' => e = .returned (.int .i64 lp) ∧ Below u.heap.size u w') from by rw [← hlp, ← loops_turn]; exact C.loops h (turnD I) j u (C.later H6.out hb) jb))
          have I1 := Lib.hid (fun E F e f w' g1 g2 => ints_same E F lo lo.length e f rfl (by omega) w' g1 g2)
          have I2 := Lib.hid (fun E F e f w' g1 g2 => ints_same E F li li.length e f rfl (by omega) w' g1 g2)
          have I3 := Lib.hid (fun E F e f w' g1 g2 => ints_same E F lt lt.length e f rfl (by omega) w' g1 g2)
          clear hlo hli hlt2 hlp jb m9
          go_wp2_with (first
            | (go_at_call 15; (with_reducible refine (O1.out _ HB.out).mono ?_); rintro e wn ⟨NA, c7, rfl, _, nc, hb, _⟩; have T1 := Lib.hid nc; replace HB := Lib.hid (chain2 HB.out hb); clear nc hb)
            | (go_at_call 17; (with_reducible refine (O2.out _ HB.out).mono ?_); rintro e wn ⟨NA, c7, rfl, _, nc, hb, _⟩; have T2 := Lib.hid nc; have T3 := Lib.hid (T1.out.later (Nat.le_refl _) hb); replace HB := Lib.hid (chain2 HB.out hb); clear nc hb)
            | (go_at_call 21; (with_reducible refine (I1.out _ _ _ _ _ T3.out T2.out).mono ?_); rintro e wn ⟨rfl, hb⟩; replace HB := Lib.hid (chain2 HB.out hb); clear hb)
            | (go_at_call 17; (with_reducible refine (O3.out _ HB.out).mono ?_); rintro e wn ⟨NA, c7, rfl, _, nc, hb, _⟩; have T4 := Lib.hid nc; replace HB := Lib.hid (chain2 HB.out hb); clear nc hb)
            | (go_at_call 15; (with_reducible refine (O4.out _ HB.out).mono ?_); rintro e wn ⟨NA, c7, rfl, _, nc, hb, _⟩; have T5 := Lib.hid nc; have T6 := Lib.hid (T4.out.later (Nat.le_refl _) hb); replace HB := Lib.hid (chain2 HB.out hb); clear nc hb)
            | (go_at_call 21; (with_reducible refine (I2.out _ _ _ _ _ T6.out T5.out).mono ?_); rintro e wn ⟨rfl, hb⟩; replace HB := Lib.hid (chain2 HB.out hb); clear hb)
            | (go_at_call 18; (with_reducible refine (O5.out _ HB.out).mono ?_); rintro e wn ⟨NA, c7, rfl, _, nc, hb, _⟩; have T7 := Lib.hid nc; replace HB := Lib.hid (chain2 HB.out hb); clear nc hb)
            | (go_at_call 18; (with_reducible refine (O6.out _ HB.out).mono ?_); rintro e wn ⟨NA, c7, rfl, _, nc, hb, _⟩; have T8 := Lib.hid nc; have T9 := Lib.hid (T7.out.later (Nat.le_refl _) hb); replace HB := Lib.hid (chain2 HB.out hb); clear nc hb)
            | (go_at_call 21; (with_reducible refine (I3.out _ _ _ _ _ T9.out T8.out).mono ?_); rintro e wn ⟨rfl, hb⟩; replace HB := Lib.hid (chain2 HB.out hb); clear hb)
            | (go_at_call 19; (with_reducible refine (L1.out _ HB.out).mono ?_); rintro e wn ⟨rfl, hb⟩; replace HB := Lib.hid (chain2 HB.out hb); clear hb)
            | (go_at_call 19; (with_reducible refine (L2.out _ HB.out).mono ?_); rintro e wn ⟨rfl, hb⟩; replace HB := Lib.hid (chain2 HB.out hb); clear hb))
          exact ⟨⟨j + 1, by omega, by simp, HB.out⟩, by simp [intOf]; omega⟩
        · have hjn : ¬ (j : Int) < (n : Int) := by omega
          go_wp2_with (go_at_call 10; (refine (KN.out _).mono ?_); rintro e wn ⟨rfl, hb⟩; replace HB := Lib.hid (chain2 HB.out hb); clear hb)
          go_ret
          exact ⟨rfl, chain2 BW6.out HB.out⟩
end Go.Proofs.Ytldjlclinckblaa.Adj

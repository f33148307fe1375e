/- What the landed layer 4 does: an arc. -/
import Derived.Test.YtajckihgfelbaaaAdjL1
import Derived.Test.YtajckihgfelbaaaAdjC
namespace Go.Proofs.Ytajckihgfelbaaa.Adj
open Go.RowKit Go.Proofs.Ytajckihgfelbaaa.Inst
set_option maxRecDepth 100000

/-- What is told of no arc. -/
theorem arcD_none {I : InstD} {a : Int} (h : fitD I a = false) : arcD I a = ⟨0, 0, 0, 0, 0⟩ := by unfold arcD; rw [h]; rfl
theorem arc_in {w : World} {A : Option Addr} {I : InstD} {m : Nat} (hm : I.arcs.length = m) (h : Cells w w.heap.size A (arcV I.arcs)) (a : Nat) (ha : a < m) : ∃ b off, A = some ⟨b, off, none⟩ ∧ b < w.heap.size ∧ ArcAt w b (off + a * 5) (arcAt I.arcs a) := by
  have hi : a < I.arcs.length := by rw [hm]; exact ha
  obtain ⟨b, off, ea, hb, ca⟩ := arcs_at h (by omega)
  refine ⟨b, off, ea, hb, ?_⟩
  have e : arcAt I.arcs a = I.arcs[a] := by unfold arcAt; rw [List.getD_eq_getElem?_getD, List.getElem?_eq_getElem hi]; rfl
  rw [e]
  exact ca a hi

set_option maxHeartbeats 4000000 in
theorem arc_v (q : Option Addr) (I : InstD) (a : Int) (ha : I64 a) (x : ArcD) (f : Bool) (hx : arcD I a = x) (hf : fitD I a = f) (w : World) (h : HalfV w q I) :
    Calls Try.prog 65 #[.pointer q, .int .i64 a] w (TellsArc x f w) := by
  obtain ⟨W1, hW1⟩ : ∃ W1, W1 = w.alloc (.cells #[.int .i64 0, .int .i64 0, .int .i64 0, .int .i64 0, .int .i64 0] 36) := ⟨_, rfl⟩
  have B1 := Lib.hid (show Below w.heap.size w W1 by rw [hW1]; exact (Below.refl _ _).alloc (Nat.le_refl _) _)
  obtain ⟨p, hp⟩ : ∃ p, p = w.heap.size := ⟨_, rfl⟩
  have BR := Lib.hid (show Blk W1 p 36 (arcCs ⟨0, 0, 0, 0, 0⟩) by rw [hW1]; exact blk_at hp.symm _ _)
  have qz : w.heap.size ≤ p := by omega
  have HW := Lib.hid hW1
  have HP := Lib.hid hp
  have HV := Lib.hid h
  have r0 := BR.out.cell 0
  have r1 := BR.out.cell 1
  have r2 := BR.out.cell 2
  have r3 := BR.out.cell 3
  have r4 := BR.out.cell 4
  have r5 := BR.out.lt
  simp at r0 r1 r2 r3 r4
  have f0 := BR.out.frozen 0
  have f1 := BR.out.frozen 1
  have f2 := BR.out.frozen 2
  have f3 := BR.out.frozen 3
  have f4 := BR.out.frozen 4
  have fin : ∀ u, u = ((((W1.setCell ⟨p, 0, none⟩ (.int .i64 0)).setCell ⟨p, 1, none⟩ (.int .i64 0)).setCell ⟨p, 2, none⟩ (.int .i64 0)).setCell ⟨p, 3, none⟩ (.int .i64 0)).setCell ⟨p, 4, none⟩ (.int .i64 0) → Blk u p 36 (arcCs ⟨0, 0, 0, 0, 0⟩) ∧ Below w.heap.size w u := by
    intro u hu
    subst hu
    exact ⟨((((BR.out.set_ 0 _).set_ 1 _).set_ 2 _).set_ 3 _).set_ 4 _, ((((B1.out.setCell qz _).setCell qz _).setCell qz _).setCell qz _).setCell qz _⟩
  have FIN := Lib.hid fin
  clear hW1 hp h fin
  rcases HV.out with ⟨rfl, rfl⟩ | ⟨b, rfl, hX⟩
  · obtain rfl : f = false := by rw [← hf]; unfold fitD; exact decide_eq_false (by simp)
    rw [arcD_none hf] at hx
    subst hx
    clear hf HV
    go_enter Try.func65, Try.ntmps65
    go_upto_region 1 with fail
    rw [← HW.out, ← HP.out]
    go_wp2_with fail
    obtain ⟨bu, hu⟩ := FIN.out _ rfl
    refine bodyPost_ret (v := .tuple #[aggV ⟨0, 0, 0, 0, 0⟩, .bool false]) ?_ rfl ⟨rfl, hu⟩
    exact (results_row_tmp (p := 4) (u := 5) (ty := 36) rfl _ _ p 36 (arcCs ⟨0, 0, 0, 0, 0⟩) (0, 0) _ (by rfl) bu Try.underlying36 rfl size_arc).trans rfl
  · obtain ⟨n, m, A, cA, P, hn, hm, n9, m9, hB, hC⟩ := hX
    have BB := Lib.hid (hB.below B1.out hB.lt)
    have x0 := BB.out.cell 0
    have x1 := BB.out.cell 1
    have x2 := BB.out.lt
    simp at x0 x1
    by_cases a0 : a < 0
    · obtain rfl : f = false := by rw [← hf]; unfold fitD; exact decide_eq_false (by omega)
      rw [arcD_none hf] at hx
      subst hx
      clear hf HV hB hC hn hm
      go_enter Try.func65, Try.ntmps65
      go_upto_region 1 with fail
      rw [← HW.out, ← HP.out]
      go_wp2_with fail
      obtain ⟨bu, hu⟩ := FIN.out _ rfl
      refine bodyPost_ret (v := .tuple #[aggV ⟨0, 0, 0, 0, 0⟩, .bool false]) ?_ rfl ⟨rfl, hu⟩
      exact (results_row_tmp (p := 4) (u := 5) (ty := 36) rfl _ _ p 36 (arcCs ⟨0, 0, 0, 0, 0⟩) (0, 0) _ (by rfl) bu Try.underlying36 rfl size_arc).trans rfl
    · by_cases a1 : a < (m : Int)
      · obtain ⟨k, rfl⟩ : ∃ k : Nat, a = k := ⟨a.toNat, by omega⟩
        have km : k < m := by omega
        have k0 : (0 : Int) ≤ (k : Int) := by omega
        obtain ⟨g, off, ea, lg, z⟩ := arc_in hm (hC.later (Nat.le_refl _) B1.out) k km
        obtain ⟨y, hy⟩ : ∃ y, y = arcAt I.arcs k := ⟨_, rfl⟩
        rw [← hy] at z
        obtain ⟨z0, z1, z2, z3, z4⟩ := z
        subst ea
        obtain ⟨u1, hu1⟩ : ∃ t, decide (0 ≤ y.frm ∧ y.frm < (I.sup.length : Int)) = t := ⟨_, rfl⟩
        obtain ⟨u2, hu2⟩ : ∃ t, decide (0 ≤ y.to ∧ y.to < (I.sup.length : Int)) = t := ⟨_, rfl⟩
        have I1 := Lib.hid (fun u (hu : Below w.heap.size w u) => isnode_v _ I y.frm u1 hu1 u (HV.out.later hu))
        have I2 := Lib.hid (fun u (hu : Below w.heap.size w u) => isnode_v _ I y.to u2 hu2 u (HV.out.later hu))
        have FE : f = (u1 && u2) := by
          rw [← hf, ← hu1, ← hu2, hy]
          unfold fitD
          rw [Int.toNat_natCast, hm, ← Bool.decide_and, decide_eq_decide]
          omega
        have XE : x = if (u1 && u2) = true then y else ⟨0, 0, 0, 0, 0⟩ := by
          rw [← hx, ← FE]
          unfold arcD
          rw [hf, Int.toNat_natCast, hy]
        subst FE XE
        clear hf hx hy hB hC hn hm hu1 hu2
        go_enter Try.func65, Try.ntmps65
        go_upto_region 1 with fail
        rw [← HW.out, ← HP.out]
        go_upto_region 4 with fail
        obtain ⟨W2, hW2⟩ : ∃ W2, W2 = W1.alloc (.cells #[.int .i64 y.frm, .int .i64 y.to, .int .i64 y.low, .int .i64 y.cap, .int .i64 y.cost] 36) := ⟨_, rfl⟩
        obtain ⟨q6, hq6⟩ : ∃ q, q = W1.heap.size := ⟨_, rfl⟩
        have ne : q6 ≠ p := by have := BR.out.lt; omega
        have BW2 := Lib.hid (show Below W1.heap.size W1 W2 by rw [hW2]; exact (Below.refl _ _).alloc (Nat.le_refl _) _)
        have BY := Lib.hid (show Blk W2 q6 36 (arcCs y) by rw [hW2]; exact blk_at hq6.symm _ _)
        have B2 := Lib.hid (chain2 B1.out BW2.out)
        have BP := Lib.hid (BR.out.below BW2.out BR.out.lt)
        rw [← hW2, ← hq6]
        clear hW2 hq6 r0 r1 r2 r3 r4 r5 f0 f1 f2 f3 f4 x0 x1 x2 z0 z1 z2 z3 z4 FIN HW HP
        have y0 := BY.out.cell 0
        have y1 := BY.out.cell 1
        have y2 := BY.out.cell 2
        have y3 := BY.out.cell 3
        have y4 := BY.out.cell 4
        have y5 := BY.out.lt
        simp at y0 y1 y2 y3 y4
        have HB := B2
        have KP : ∀ u, Below W2.heap.size W2 u → Blk u q6 36 (arcCs y) ∧ Blk u p 36 (arcCs ⟨0, 0, 0, 0, 0⟩) := fun u hu => ⟨BY.out.below hu BY.out.lt, BP.out.below hu BP.out.lt⟩
        have KH := Lib.hid KP
        have BR2 := Lib.hid (Below.refl W2.heap.size W2)
        have ZY := Lib.hid (show ∀ u, Blk u q6 36 (arcCs y) → u.cell? ⟨q6, 0, none⟩ = some (.int .i64 y.frm) ∧ u.cell? ⟨q6, 1, none⟩ = some (.int .i64 y.to) ∧ u.cell? ⟨q6, 2, none⟩ = some (.int .i64 y.low) ∧ u.cell? ⟨q6, 3, none⟩ = some (.int .i64 y.cap) ∧ u.cell? ⟨q6, 4, none⟩ = some (.int .i64 y.cost) ∧ q6 < u.heap.size from
          fun u h => ⟨(h.cell 0).trans rfl, (h.cell 1).trans rfl, (h.cell 2).trans rfl, (h.cell 3).trans rfl, (h.cell 4).trans rfl, h.lt⟩)
        have ZP := Lib.hid (show ∀ u, Blk u p 36 (arcCs ⟨0, 0, 0, 0, 0⟩) → u.cell? ⟨p, 0, none⟩ = some (.int .i64 0) ∧ u.cell? ⟨p, 1, none⟩ = some (.int .i64 0) ∧ u.cell? ⟨p, 2, none⟩ = some (.int .i64 0) ∧ u.cell? ⟨p, 3, none⟩ = some (.int .i64 0) ∧ u.cell? ⟨p, 4, none⟩ = some (.int .i64 0) ∧ p < u.heap.size ∧ u.frozen? ⟨p, 0, none⟩ = false ∧ u.frozen? ⟨p, 1, none⟩ = false ∧ u.frozen? ⟨p, 2, none⟩ = false ∧ u.frozen? ⟨p, 3, none⟩ = false ∧ u.frozen? ⟨p, 4, none⟩ = false from
          fun u h => ⟨(h.cell 0).trans rfl, (h.cell 1).trans rfl, (h.cell 2).trans rfl, (h.cell 3).trans rfl, (h.cell 4).trans rfl, h.lt, h.frozen 0, h.frozen 1, h.frozen 2, h.frozen 3, h.frozen 4⟩)
        clear KP
        cases u1 with
        | false =>
          go_wp2_with (first
            | (go_at_call 94; (with_reducible refine (I1.out _ HB.out).mono ?_); rintro e w2 ⟨rfl, hb⟩; obtain ⟨a1, a2, a3, a4, a5, a6, b1, b2, b3, b4, b5⟩ := ZP.out _ (KH.out _ (chain2 BR2.out hb)).2; replace HB := Lib.hid (chain2 HB.out hb); have BL := Lib.hid (KH.out _ (chain2 BR2.out hb)).2; clear hb))
          refine bodyPost_ret (v := .tuple #[aggV ⟨0, 0, 0, 0, 0⟩, .bool false]) ?_ rfl ⟨rfl, ((((HB.out.setCell qz _).setCell qz _).setCell qz _).setCell qz _).setCell qz _⟩
          exact (results_row_tmp (p := 4) (u := 5) (ty := 36) rfl _ _ p 36 (arcCs ⟨0, 0, 0, 0, 0⟩) (0, 0) _ (by rfl) (((((BL.out.set_ 0 _).set_ 1 _).set_ 2 _).set_ 3 _).set_ 4 _) Try.underlying36 rfl size_arc).trans rfl
        | true =>
          cases u2 with
          | false =>
            go_wp2_with (first
              | (go_at_call 94; (with_reducible refine (I1.out _ HB.out).mono ?_); clear I1; rintro e w2 ⟨rfl, hb⟩; obtain ⟨c1, c2, c3, c4, c5, c6⟩ := ZY.out _ (KH.out _ (chain2 BR2.out hb)).1; replace HB := Lib.hid (chain2 HB.out hb); replace BR2 := Lib.hid (chain2 BR2.out hb); clear hb)
              | (go_at_call 94; (with_reducible refine (I2.out _ HB.out).mono ?_); rintro e w2 ⟨rfl, hb⟩; obtain ⟨a1, a2, a3, a4, a5, a6, b1, b2, b3, b4, b5⟩ := ZP.out _ (KH.out _ (chain2 BR2.out hb)).2; replace HB := Lib.hid (chain2 HB.out hb); have BL := Lib.hid (KH.out _ (chain2 BR2.out hb)).2; clear hb))
            refine bodyPost_ret (v := .tuple #[aggV ⟨0, 0, 0, 0, 0⟩, .bool false]) ?_ rfl ⟨rfl, ((((HB.out.setCell qz _).setCell qz _).setCell qz _).setCell qz _).setCell qz _⟩
            exact (results_row_tmp (p := 4) (u := 5) (ty := 36) rfl _ _ p 36 (arcCs ⟨0, 0, 0, 0, 0⟩) (0, 0) _ (by rfl) (((((BL.out.set_ 0 _).set_ 1 _).set_ 2 _).set_ 3 _).set_ 4 _) Try.underlying36 rfl size_arc).trans rfl
          | true =>
            go_wp2_with (first
              | (go_at_call 94; (with_reducible refine (I1.out _ HB.out).mono ?_); clear I1; rintro e w2 ⟨rfl, hb⟩; obtain ⟨c1, c2, c3, c4, c5, c6⟩ := ZY.out _ (KH.out _ (chain2 BR2.out hb)).1; replace HB := Lib.hid (chain2 HB.out hb); replace BR2 := Lib.hid (chain2 BR2.out hb); clear hb)
              | (go_at_call 94; (with_reducible refine (I2.out _ HB.out).mono ?_); rintro e w2 ⟨rfl, hb⟩; obtain ⟨c1, c2, c3, c4, c5, c6⟩ := ZY.out _ (KH.out _ (chain2 BR2.out hb)).1; obtain ⟨a1, a2, a3, a4, a5, a6, b1, b2, b3, b4, b5⟩ := ZP.out _ (KH.out _ (chain2 BR2.out hb)).2; replace HB := Lib.hid (chain2 HB.out hb); have BL := Lib.hid (KH.out _ (chain2 BR2.out hb)).2; clear hb))
            refine bodyPost_ret (v := .tuple #[aggV y, .bool true]) ?_ rfl ⟨rfl, ((((HB.out.setCell qz _).setCell qz _).setCell qz _).setCell qz _).setCell qz _⟩
            exact (results_row_tmp (p := 4) (u := 5) (ty := 36) rfl _ _ p 36 (arcCs y) (0, 0) _ (by rfl) (((((BL.out.set_ 0 _).set_ 1 _).set_ 2 _).set_ 3 _).set_ 4 _) Try.underlying36 rfl size_arc).trans rfl
      · obtain rfl : f = false := by rw [← hf]; unfold fitD; exact decide_eq_false (by rw [hm]; omega)
        rw [arcD_none hf] at hx
        subst hx
        clear hf HV hB hC hn hm
        have a2 : 0 ≤ a := by omega
        have a3 : (m : Int) ≤ a := by omega
        go_enter Try.func65, Try.ntmps65
        go_upto_region 1 with fail
        rw [← HW.out, ← HP.out]
        go_wp2_with fail
        obtain ⟨bu, hu⟩ := FIN.out _ rfl
        refine bodyPost_ret (v := .tuple #[aggV ⟨0, 0, 0, 0, 0⟩, .bool false]) ?_ rfl ⟨rfl, hu⟩
        exact (results_row_tmp (p := 4) (u := 5) (ty := 36) rfl _ _ p 36 (arcCs ⟨0, 0, 0, 0, 0⟩) (0, 0) _ (by rfl) bu Try.underlying36 rfl size_arc).trans rfl
end Go.Proofs.Ytajckihgfelbaaa.Adj

/- The laws' helper Forth: an instance whose arcs all fit. -/
import Derived.Test.YtajckihgfelbaaaRchTurned
namespace Go.Proofs.Ytajckihgfelbaaa.Rch
open Go.RowKit Go.Proofs.Ytajckihgfelbaaa.Inst Go.Proofs.Ytajckihgfelbaaa.Adj
set_option maxRecDepth 100000

/-- All arcs lie between nodes. -/
def Ends (n : Nat) (L : List ArcD) : Prop := ∀ j, j < L.length → 0 ≤ (arcAt L j).frm ∧ (arcAt L j).frm < n ∧ 0 ≤ (arcAt L j).to ∧ (arcAt L j).to < n
theorem arcAt_set (L : List ArcD) (k j : Nat) (x : ArcD) (hk : k < L.length) : arcAt (L.set k x) j = if j = k then x else arcAt L j := by
  unfold arcAt
  rw [List.getD_eq_getElem?_getD, List.getD_eq_getElem?_getD, List.getElem?_set]
  by_cases e : k = j
  · subst e
    simp [hk]
  · rw [if_neg e, if_neg (fun h => e h.symm)]
theorem Ends.set {n : Nat} {L : List ArcD} (h : Ends n L) {k : Nat} (hk : k < L.length) {f : Nat} (hf : f < 2) {y : Int} (h0 : 0 ≤ y) (h1 : y < n) : Ends n (L.set k (setF (arcAt L k) f y)) := by
  intro j hj
  rw [List.length_set] at hj
  rw [arcAt_set L k j _ hk]
  by_cases e : j = k
  · rw [if_pos e]
    have q := h k hk
    have : f = 0 ∨ f = 1 := by omega
    rcases this with rfl | rfl
    · exact ⟨h0, h1, q.2.2⟩
    · exact ⟨q.1, q.2.1, h0, h1⟩
  · rw [if_neg e]
    exact h j hj
theorem Ends.fit {I : InstD} (h : Ends I.sup.length I.arcs) {a : Nat} (ha : a < I.arcs.length) : fitD I (a : Int) = true := by
  unfold fitD
  simp only [Int.toNat_natCast]
  have := h a ha
  exact decide_eq_true ⟨by omega, by omega, this⟩
theorem Ends.of {I : InstD} (h : InD I) : Ends I.sup.length I.arcs := by
  intro j hj
  have e : arcAt I.arcs j = I.arcs[j] := by unfold arcAt; rw [List.getD_eq_getElem?_getD, List.getElem?_eq_getElem hj]; rfl
  have := h _ (List.getElem_mem hj)
  rw [← e] at this
  exact ⟨this.1, this.2.1, this.2.2.1, this.2.2.2⟩
/-- At the head of the loop. -/
def ForthRel (W : World) (w1 : World) (rb p sB : Nat) (A : Option Addr) (n m ca : Nat) (sup : List Int) (s : Value) (u : World) : Prop :=
  ∃ (k : Nat) (L : List ArcD), k ≤ m ∧ s = .int .i64 (k : Int) ∧ L.length = m ∧ Ends n L ∧ Made w1 u sB (.slice A m ca) sup L ∧ Blk u p 25 #[.slice (some ⟨sB, 0, none⟩) n n, .slice A m ca] ∧ Blk u rb 25 #[.slice none 0 0, .slice none 0 0] ∧ Below W.heap.size W u

/-- Within a round: what stands where. -/
structure FW (W w1 : World) (rb p sB ab gJ n m ca : Nat) (sup : List Int) (X : ArcD) (L : List ArcD) (v : World) : Prop where
  len : L.length = m
  ends : Ends n L
  made : Made w1 v sB (.slice (some ⟨gJ, 0, none⟩) m ca) sup L
  pp : Blk v p 25 #[.slice (some ⟨sB, 0, none⟩) n n, .slice (some ⟨gJ, 0, none⟩) m ca]
  rr : Blk v rb 25 #[.slice none 0 0, .slice none 0 0]
  aa : Blk v ab 36 #[.int .i64 X.frm, .int .i64 X.to, .int .i64 X.low, .int .i64 X.cap, .int .i64 X.cost]
  below : Below W.heap.size W v
theorem FW.set {W w1 v : World} {rb p sB ab gJ n m ca : Nat} {sup : List Int} {X : ArcD} {L : List ArcD} (h : FW W w1 rb p sB ab gJ n m ca sup X L v) (hn : p ≠ gJ ∧ rb ≠ gJ ∧ ab ≠ gJ ∧ W.heap.size ≤ gJ) {k : Nat} (hk : k < m) {f : Nat} (hf : f < 2) {y : Int} (h0 : 0 ≤ y) (h1 : y < n) :
    FW W w1 rb p sB ab gJ n m ca sup X (L.set k (setF (arcAt L k) f y)) (v.setCell ⟨gJ, k * 5 + f, none⟩ (.int .i64 y)) :=
  ⟨by rw [List.length_set]; exact h.len, h.ends.set (by rw [h.len]; exact hk) hf h0 h1, made_set h.made h.len k f y (by omega) hk, h.pp.far (by show p ≠ gJ; exact hn.1) _, h.rr.far (by show rb ≠ gJ; exact hn.2.1) _, h.aa.far (by show ab ≠ gJ; exact hn.2.2.1) _, h.below.setCell (by show W.heap.size ≤ gJ; exact hn.2.2.2) _⟩
theorem FW.cells {W w1 v : World} {rb p sB ab gJ n m ca : Nat} {sup : List Int} {X : ArcD} {L : List ArcD} (h : FW W w1 rb p sB ab gJ n m ca sup X L v) {k : Nat} (hk : k < m) :
    (v.cell? ⟨p, 0, none⟩ = some (.slice (some ⟨sB, 0, none⟩) n n) ∧ v.cell? ⟨p, 1, none⟩ = some (.slice (some ⟨gJ, 0, none⟩) m ca) ∧ p < v.heap.size) ∧
    (v.cell? ⟨ab, 0, none⟩ = some (.int .i64 X.frm) ∧ v.cell? ⟨ab, 1, none⟩ = some (.int .i64 X.to) ∧ ab < v.heap.size) ∧
    ∃ Y : ArcD, v.cell? ⟨gJ, k * 5, none⟩ = some (.int .i64 Y.frm) ∧ v.cell? ⟨gJ, k * 5 + 1, none⟩ = some (.int .i64 Y.to) ∧ gJ < v.heap.size ∧ v.frozen? ⟨gJ, k * 5, none⟩ = false ∧ v.frozen? ⟨gJ, k * 5 + 1, none⟩ = false := by
  have o : v.ownsRow w1.heap.size 36 5 (.slice (some ⟨gJ, 0, none⟩) m ca) m (arcV L) := by have q := h.made.arcs; rw [h.len] at q; exact q
  obtain ⟨g, e, lg, ⟨b0, b1, -, -, -⟩, fJ⟩ := arc_cells o h.len k hk
  cases e
  exact ⟨⟨(h.pp.cell 0).trans rfl, (h.pp.cell 1).trans rfl, h.pp.lt⟩, ⟨(h.aa.cell 0).trans rfl, (h.aa.cell 1).trans rfl, h.aa.lt⟩, _, b0, b1, lg, fJ _, fJ _⟩

set_option maxHeartbeats 16000000 in
theorem forth_any {W : World} (s : Option Addr) (l c : Nat) (xs : List Nat) (hl : xs.length = l) (h9 : l ≤ 140737488355328) (hx : Octs xs) (hs : Cells W W.heap.size s (octV xs)) (s' : Option Addr) (l' c' : Nat) (ys : List Nat) (hl' : ys.length = l') (h9' : l' ≤ 140737488355328) (hy : Octs ys) (hs' : Cells W W.heap.size s' (octV ys)) :
    Calls Try.prog 23 #[.slice s l c, .slice s' l' c'] W fun e W' => ∃ (J : InstD) (n m : Nat) (sA : Nat) (A : Option Addr) (ca : Nat), e = .returned (.agg #[.slice (some ⟨sA, 0, none⟩) n n, .slice A m ca]) ∧ Here W' (some ⟨sA, 0, none⟩) A n m J ∧ Ends n J.arcs ∧ 1 ≤ n ∧ n ≤ 7 ∧ m ≤ 18 ∧ Below W.heap.size W W' := by
  obtain ⟨I, hI⟩ : ∃ I, I = instC xs ys := ⟨_, rfl⟩
  obtain ⟨n, hn⟩ : ∃ n, nodesC ys = n := ⟨_, rfl⟩
  obtain ⟨m, hm⟩ : ∃ m, I.arcs.length = m := ⟨_, rfl⟩
  have i0 : I.sup.length = n := by rw [hI, instC_sup, hn]
  have n7 : n ≤ 7 ∧ 1 ≤ n := by rw [← hn]; exact ⟨(nodesC_bd ys).2, (nodesC_bd ys).1⟩
  have m18 : m ≤ 18 := by rw [← hm, hI]; exact instC_arcs xs ys
  obtain ⟨w1, hw1⟩ : ∃ w1, w1 = W.alloc (.cells #[.slice none 0 0, .slice none 0 0] 25) := ⟨_, rfl⟩
  obtain ⟨rb, hrb⟩ : ∃ rb, rb = W.heap.size := ⟨_, rfl⟩
  have B1 := Lib.hid (show Below W.heap.size W w1 by rw [hw1]; exact (Below.refl _ _).alloc (Nat.le_refl _) _)
  have RB1 := Lib.hid (show Blk w1 rb 25 #[.slice none 0 0, .slice none 0 0] by rw [hw1]; exact blk_at hrb.symm _ _)
  have IN := Lib.hid (inst_here s l c xs hl h9 hx s' l' c' ys hl' h9' hy hI hn hm w1 (hs.later (Nat.le_refl _) B1.out) (hs'.later (Nat.le_refl _) B1.out))
  have EN := Lib.hid (show Ends n I.arcs by rw [← i0]; exact Ends.of (by rw [hI]; exact instC_in xs ys))
  have HN := Lib.hid i0
  have HM := Lib.hid hm
  have HW1 := Lib.hid hw1
  have HRB := Lib.hid hrb
  have RW := Lib.hid (show W.heap.size ≤ rb by omega)
  obtain ⟨n7, n1⟩ := n7
  clear hI hn hm i0 hs hs' hx hy hw1 hrb
  go_enter Try.func23, Try.ntmps23
  go_wp2_with fail
  rw [← HW1.out, ← HRB.out]
  refine IN.out.mono ?_
  rintro e w2 ⟨sA, A, ca, rfl, hM, -, hb⟩
  have M2 := Lib.hid hM
  obtain ⟨p, hp⟩ : ∃ p, p = w2.heap.size := ⟨_, rfl⟩
  obtain ⟨W3, hW3⟩ : ∃ W3, W3 = w2.alloc (.cells #[.slice (some ⟨sA, 0, none⟩) n n, .slice A m ca] 25) := ⟨_, rfl⟩
  have M3 := Lib.hid (show Made w1 W3 sA (.slice A m ca) I.sup I.arcs by rw [hW3]; exact M2.out.alloc _)
  have BP := Lib.hid (show Blk W3 p 25 #[.slice (some ⟨sA, 0, none⟩) n n, .slice A m ca] by rw [hW3]; exact blk_at hp.symm _ _)
  have RB3 := Lib.hid (show Blk W3 rb 25 #[.slice none 0 0, .slice none 0 0] from RB1.out.below M3.out.below RB1.out.lt)
  have PN := Lib.hid (show w1.heap.size ≤ p ∧ sA < p ∧ ∀ g, (Value.slice A m ca).ownBlock = some g → g < p from ⟨by rw [hp]; exact hb.size, by rw [hp]; exact hM.sup.lt, fun g hg => by rw [hp]; exact own_lt M2.out.arcs g hg⟩)
  have RN := Lib.hid (show rb < w1.heap.size from RB1.out.lt)
  have B3 := Lib.hid (show Below W.heap.size W W3 from chain2 B1.out M3.out.below)
  have HW3 := Lib.hid hW3
  have HP := Lib.hid hp
  clear hM hp hW3 M2 IN hb
  go_wp2_with fail
  rw [← HW3.out, ← HP.out]
  clear HW3 HP HW1 HRB
  go_loopw [6] (fun s u => ForthRel W w1 rb p sA A n m ca I.sup s u) (fun s _ => m - (intOf s).toNat)
  case atStart => exact ⟨0, I.arcs, by omega, rfl, HM.out, EN.out, M3.out, BP.out, RB3.out, B3.out⟩
  case round =>
    obtain ⟨k, L, hk, rfl, hL, hE, hM, hP, hR, hB⟩ := hrel
    have MM := Lib.hid hM
    have PP := Lib.hid hP
    have RR := Lib.hid hR
    have BB := Lib.hid hB
    have EE := Lib.hid hE
    have HL := Lib.hid hL
    have x0 := PP.out.cell 0
    have x1 := PP.out.cell 1
    have x2 := PP.out.lt
    simp at x0 x1
    clear hM hP hR hB hE hL
    have oJ : wr.ownsRow w1.heap.size 36 5 (.slice A m ca) m (arcV L) := by have q := MM.out.arcs; rw [HL.out] at q; exact q
    by_cases hlt : k < m
    · obtain ⟨gJ, eJ, lJ, ⟨b0, b1, b2, b3, b4⟩, fJ⟩ := arc_cells oJ HL.out k hlt
      have gge := own_ge oJ gJ (by rw [eJ]; rfl)
      subst eJ
      obtain ⟨e0, e1, e2, e3⟩ := EE.out k (by rw [HL.out]; exact hlt)
      obtain ⟨X, hX⟩ : ∃ X, X = arcAt L k := ⟨_, rfl⟩
      rw [← hX] at b0 b1 b2 b3 b4 e0 e1 e2 e3
      have k0 : (0 : Int) ≤ (k : Int) := by omega
      have k1 : (k : Int) < (m : Int) := by omega
      have HX := Lib.hid hX
      have FJ := Lib.hid fJ
      clear fJ oJ hX
      go_upto_region 6 with fail
      obtain ⟨ab, hab⟩ : ∃ ab, ab = wr.heap.size := ⟨_, rfl⟩
      obtain ⟨v0, hv0⟩ : ∃ v0, v0 = wr.alloc (.cells #[.int .i64 X.frm, .int .i64 X.to, .int .i64 X.low, .int .i64 X.cap, .int .i64 X.cost] 36) := ⟨_, rfl⟩
      have F0 := Lib.hid (show FW W w1 rb p sA ab gJ n m ca I.sup X L v0 by
        rw [hv0]
        exact ⟨HL.out, EE.out, MM.out.alloc _, PP.out.alloc _, RR.out.alloc _, blk_at hab.symm _ _, BB.out.alloc BB.out.size _⟩)
      have NE := Lib.hid (show p ≠ gJ ∧ rb ≠ gJ ∧ ab ≠ gJ ∧ W.heap.size ≤ gJ by
        have q1 := PN.out.2.2 gJ rfl
        have q2 := RN.out
        have q3 := B1.out.size
        exact ⟨by omega, by omega, by omega, by omega⟩)
      have FIN := Lib.hid (show ∀ L' u, FW W w1 rb p sA ab gJ n m ca I.sup X L' u → ForthRel W w1 rb p sA (some ⟨gJ, 0, none⟩) n m ca I.sup (.int .i64 ((k : Int) + 1)) u from fun L' u h => ⟨k + 1, L', by omega, by simp, h.len, h.ends, h.made, h.pp, h.rr, h.below⟩)
      rw [← hv0, ← hab]
      clear hv0 hab x0 x1 x2 b0 b1 b2 b3 b4 lJ
      obtain ⟨⟨x0, x1, x2⟩, ⟨a0, a1, a2⟩, Y0, b0, b1, lJ, f0, f1⟩ := F0.out.cells hlt
      by_cases g1 : X.to < X.frm
      · have g2 : (X.frm == X.to) = false := by rw [beq_eq_false_iff_ne]; omega
        by_cases h5 : k % 5 = 4
        · have t5 : ((k : Int) % 5 != 4) = false := by simp; omega
          go_wp2_with fail
          exact ⟨FIN.out _ _ F0.out, by simp [intOf]; omega⟩
        · have t5 : ((k : Int) % 5 != 4) = true := by simp; omega
          go_upto_region 8 with fail
          obtain ⟨v1, hv1⟩ : ∃ v1, v1 = v0.setCell ⟨gJ, k * 5, none⟩ (.int .i64 X.to) := ⟨_, rfl⟩
          have F1 := Lib.hid (show FW W w1 rb p sA ab gJ n m ca I.sup X _ v1 by rw [hv1]; exact F0.out.set NE.out hlt (f := 0) (by omega) e2 e3)
          rw [← hv1]
          clear hv1 x0 x1 x2 a0 a1 a2 b0 b1 lJ f0 f1
          obtain ⟨⟨x0, x1, x2⟩, ⟨a0, a1, a2⟩, Y1, b0, b1, lJ, f0, f1⟩ := F1.out.cells hlt
          go_upto_region 9 with fail
          obtain ⟨v2, hv2⟩ : ∃ v2, v2 = v1.setCell ⟨gJ, k * 5 + 1, none⟩ (.int .i64 X.frm) := ⟨_, rfl⟩
          have F2 := Lib.hid (show FW W w1 rb p sA ab gJ n m ca I.sup X _ v2 by rw [hv2]; exact F1.out.set NE.out hlt (f := 1) (by omega) e0 e1)
          rw [← hv2]
          clear hv2 x0 x1 x2 a0 a1 a2 b0 b1 lJ f0 f1
          obtain ⟨⟨x0, x1, x2⟩, ⟨a0, a1, a2⟩, Y2, b0, b1, lJ, f0, f1⟩ := F2.out.cells hlt
          go_wp2_with fail
          exact ⟨FIN.out _ _ F2.out, by simp [intOf]; omega⟩
      · by_cases h7 : X.frm = X.to
        · have g2 : (X.frm == X.to) = true := by rw [beq_iff_eq]; exact h7
          by_cases h6 : k % 7 = 6
          · have t5 : ((k : Int) % 7 != 6) = false := by simp; omega
            go_wp2_with fail
            exact ⟨FIN.out _ _ F0.out, by simp [intOf]; omega⟩
          · have t5 : ((k : Int) % 7 != 6) = true := by simp; omega
            clear h7
            go_upto_region 11 with fail
            obtain ⟨v1, hv1⟩ : ∃ v1, v1 = v0.setCell ⟨gJ, k * 5, none⟩ (.int .i64 0) := ⟨_, rfl⟩
            have F1 := Lib.hid (show FW W w1 rb p sA ab gJ n m ca I.sup X _ v1 by rw [hv1]; exact F0.out.set NE.out hlt (f := 0) (by omega) (Int.le_refl 0) (by omega))
            rw [← hv1]
            clear hv1 x0 x1 x2 a0 a1 a2 b0 b1 lJ f0 f1
            obtain ⟨⟨x0, x1, x2⟩, ⟨a0, a1, a2⟩, Y1, b0, b1, lJ, f0, f1⟩ := F1.out.cells hlt
            have F2 := Lib.hid (F1.out.set NE.out hlt (f := 1) (y := (n : Int) - 1) (by omega) (by omega) (by omega))
            go_wp2_with fail
            exact ⟨FIN.out _ _ F2.out, by simp [intOf]; omega⟩
        · have g2 : (X.frm == X.to) = false := by rw [beq_eq_false_iff_ne]; exact h7
          clear h7
          go_wp2_with fail
          exact ⟨FIN.out _ _ F0.out, by simp [intOf]; omega⟩
    · obtain rfl : m = k := by omega
      have t1 : ¬ ((m : Int) < (m : Int)) := by omega
      have r0 := RR.out.cell 0
      have r1 := RR.out.cell 1
      have r2 := RR.out.lt
      have r3 := RR.out.frozen 0
      have r4 := RR.out.frozen 1
      simp at r0 r1
      have NB := Lib.hid (show rb ≠ sA ∧ (∀ g, (Value.slice A m ca).ownBlock = some g → rb ≠ g) from ⟨by have := RN.out; have := MM.out.new; omega, fun g hg => by have := RN.out; have := own_ge oJ g hg; omega⟩)
      clear oJ
      go_wp2_with fail
      have Q1 := Lib.hid ((RR.out.set_ 0 (.slice (some ⟨sA, 0, none⟩) n n)).set_ 1 (.slice A m ca))
      have Q2 := Lib.hid (cells_blk ((MM.out.sup.far (p := ⟨rb, 0, none⟩) (by show sA ≠ rb; exact fun e => NB.out.1 e.symm) (.slice (some ⟨sA, 0, none⟩) n n)).far (p := ⟨rb, 1, none⟩) (by show sA ≠ rb; exact fun e => NB.out.1 e.symm) (.slice A m ca)))
      have Q3 := Lib.hid (own_far (own_far MM.out.arcs (p := ⟨rb, 0, none⟩) (fun e => NB.out.2 _ e rfl) (.slice (some ⟨sA, 0, none⟩) n n)) (p := ⟨rb, 1, none⟩) (fun e => NB.out.2 _ e rfl) (.slice A m ca))
      have Q4 := Lib.hid ((BB.out.setCell (p := ⟨rb, 0, none⟩) RW.out (.slice (some ⟨sA, 0, none⟩) n n)).setCell (p := ⟨rb, 1, none⟩) RW.out (.slice A m ca))
      refine bodyPost_ret (v := .agg #[.slice (some ⟨sA, 0, none⟩) n n, .slice A m ca]) ?_ rfl ?_
      · exact results_cell_row rfl _ _ _ _ _ _ _ rfl Q1.out Try.underlying25 rfl size_inst
      · refine ⟨⟨I.sup, L⟩, n, m, sA, A, ⟨ca, rfl⟩, ⟨⟨?_, ?_, Q2.out, ?_⟩, HN.out, HL.out⟩, EE.out, n1, n7, m18, Q4.out⟩
        · show I.sup.length ≤ _
          rw [HN.out]
          omega
        · show L.length ≤ _
          rw [HL.out]
          omega
        · have q := Q3.out
          rw [HL.out] at q
          exact own_row q
end Go.Proofs.Ytajckihgfelbaaa.Rch

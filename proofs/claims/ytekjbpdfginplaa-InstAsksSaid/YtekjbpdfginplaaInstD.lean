/- Contracts of the document's answers for layer 3: the same instances. -/
import Derived.Test.YtekjbpdfginplaaInstC
namespace Go.Proofs.Ytekjbpdfginplaa.Inst
open Go.RowKit

theorem neq_arc (x y : ArcD) (w : World) : (binOp .neq 45 (aggV x) (aggV y)).run Try.prog w = .ok (.bool (!decide (x = y))) w := by
  have hf : Try.prog.underlying 45 = some (.struct (Try.prog.fieldsOf 45)) := by kernel_rfl
  have u3 := Try.underlying3
  have u2 := Try.underlying2
  rw [run_neq_struct, run_equalIn_agg w 9999 _ _ _ hf (by kernel_rfl)]
  simp [Program.fieldsOf, Try.underlying45, Op.eqFields, go_sem]
  cases x; cases y
  simp only [ArcD.mk.injEq]
  (repeat' split) <;> simp_all
theorem eql_arc (x y : ArcD) (w : World) : (binOp .eql 45 (aggV x) (aggV y)).run Try.prog w = .ok (.bool (decide (x = y))) w := by
  have hf : Try.prog.underlying 45 = some (.struct (Try.prog.fieldsOf 45)) := by kernel_rfl
  have u3 := Try.underlying3
  have u2 := Try.underlying2
  rw [run_eql_struct, run_equalIn_agg w 9999 _ _ _ hf (by kernel_rfl)]
  simp [Program.fieldsOf, Try.underlying45, Op.eqFields, go_sem]
  cases x; cases y
  simp only [ArcD.mk.injEq]
  (repeat' split) <;> simp_all

set_option maxHeartbeats 2000000 in
theorem rsame_arcs (A A2 B B2 : Option Addr) (c d c' d' : Nat) (I J : InstD) (w : World) (hI : InstIs w A A2 I) (hJ : InstIs w B B2 J) (hs : I.sup = J.sup) :
    Calls Try.prog 26 #[instV A c A2 d I, instV B c' B2 d' J] w fun e w' => e = .returned (.bool (decide (I.arcs = J.arcs))) ∧ Below w.heap.size w w' := by
  have hn := hI.m
  have HB0 := Lib.hid (show Below w.heap.size w ((w.alloc (.cells #[.slice A I.sup.length c, .slice A2 I.arcs.length d] 25)).alloc (.cells #[.slice B J.sup.length c', .slice B2 J.arcs.length d'] 25)) from ((Below.refl _ _).alloc (Nat.le_refl _) _).alloc (by simp) _)
  have NU := Lib.hid (fun w' (h : Below w.heap.size w w') => rnums_any A B I.sup J.sup I.sup.length J.sup.length c c' rfl rfl (by have := hI.n; unfold maxLen; omega) w' (hI.later h).sup (hJ.later h).sup)
  have DT := Lib.hid (show decide (I.sup = J.sup) = true from decide_eq_true hs)
  have HA := Lib.hid hI.arcs
  have HB := Lib.hid hJ.arcs
  clear hI hJ hs
  by_cases hl : I.arcs.length = J.arcs.length
  · have HL := Lib.hid hl
    have h1 : ((I.arcs.length : Int) != (J.arcs.length : Int)) = false := by simp; omega
    clear hl
    go_enter Try.func26, Try.ntmps26
    go_wp2_with (go_at_call 46; refine (NU.out _ HB0.out).mono ?_; rintro e w1 ⟨rfl, hb1⟩; rw [DT.out]; obtain ⟨bc, bf⟩ := bcell hb1)
    have HB1 := Lib.hid (chain2 HB0.out hb1)
    have bz := hb1.size
    clear hb1
    go_loopw [5] (fun q u => SameRel w1 I.arcs J.arcs q u) (fun q _ => I.arcs.length - (intOf q).toNat)
    case atStart => exact ⟨0, 0, by omega, rfl, by simp, rfl⟩
    case round =>
      obtain ⟨k, m, hk, rfl, ht, rfl⟩ := hrel
      have HT := Lib.hid ht
      clear ht
      by_cases hlt : k < I.arcs.length
      · have hlt2 : k < J.arcs.length := by have := HL.out; omega
        obtain ⟨ba, oa, ea, lba, ca⟩ := arcs_at (HA.out.later (Nat.le_refl _) HB1.out) (by omega)
        obtain ⟨bb, ob, eb, lbb, cb⟩ := arcs_at (HB.out.later (Nat.le_refl _) HB1.out) (by omega)
        have c1 := ca k hlt
        have c2 := cb k hlt2
        have EA := Lib.hid ea
        have EB := Lib.hid eb
        have i0 : (0 : Int) ≤ (k : Int) := by omega
        have i1 : (k : Int) < (I.arcs.length : Int) := by omega
        have i2 : (k : Int) < (J.arcs.length : Int) := by omega
        obtain ⟨x, hx⟩ : ∃ x, x = I.arcs[k] := ⟨_, rfl⟩
        obtain ⟨y, hy⟩ : ∃ y, y = J.arcs[k] := ⟨_, rfl⟩
        rw [← hx] at c1
        rw [← hy] at c2
        have HX := Lib.hid hx
        have HY := Lib.hid hy
        obtain ⟨x1, x2, x3, x4, x5⟩ := c1
        obtain ⟨y1, y2, y3, y4, y5⟩ := c2
        clear ca cb hx hy
        subst ea eb
        have nq := fun w => neq_arc x y w
        by_cases e : x = y
        · rw [decide_eq_true e] at nq
          have HE := Lib.hid e
          clear e
          go_wp2_with fail
          go_quiet (fail)
          go_wp2_with fail
          have E := same_step I.arcs J.arcs k hlt hlt2 HT.out (HX.out.symm.trans (HE.out.trans HY.out))
          exact ⟨⟨k + 1, _, by omega, by simp, E, rfl⟩, by simp [intOf]; omega⟩
        · rw [decide_eq_false e] at nq
          have D := Lib.hid (show decide (I.arcs = J.arcs) = false by
            apply decide_eq_false
            intro hq
            apply e
            rw [HX.out, HY.out]
            simp [hq])
          clear e
          go_wp2_with fail
          go_quiet (fail)
          go_wp2_with fail
          go_ret
          exact ⟨by rw [D.out]; rfl, below_drewN (below_drewN HB1.out _) _⟩
      · obtain rfl : k = I.arcs.length := by omega
        have D := Lib.hid (show decide (I.arcs = J.arcs) = true by
          apply decide_eq_true
          have q := HT.out
          rw [List.take_length, HL.out, List.take_length] at q
          exact q)
        go_wp2_with fail
        go_ret
        exact ⟨by rw [D.out]; rfl, below_drewN HB1.out _⟩
  · have h1 : ((I.arcs.length : Int) != (J.arcs.length : Int)) = true := by simp; omega
    have D := Lib.hid (show decide (I.arcs = J.arcs) = false from decide_eq_false (fun e => hl (by rw [e])))
    clear hl
    go_enter Try.func26, Try.ntmps26
    go_wp2_with (go_at_call 46; refine (NU.out _ HB0.out).mono ?_; rintro e w1 ⟨rfl, hb1⟩; rw [DT.out]; obtain ⟨bc, bf⟩ := bcell hb1)
    go_ret
    exact ⟨by rw [D.out]; rfl, chain2 HB0.out hb1⟩

/-- Same. -/
theorem rsame_any (A A2 B B2 : Option Addr) (c d c' d' : Nat) (I J : InstD) (w : World) (hI : InstIs w A A2 I) (hJ : InstIs w B B2 J) :
    Calls Try.prog 26 #[instV A c A2 d I, instV B c' B2 d' J] w fun e w' => e = .returned (.bool (decide (I = J))) ∧ Below w.heap.size w w' := by
  by_cases hs : I.sup = J.sup
  · have h := rsame_arcs A A2 B B2 c d c' d' I J w hI hJ hs
    have e : decide (I.arcs = J.arcs) = decide (I = J) := by
      apply decide_eq_decide.2
      constructor
      · intro q
        cases I; cases J
        simp_all
      · intro q
        rw [q]
    rw [e] at h
    exact h
  · have D := Lib.hid (show decide (I = J) = false from decide_eq_false (fun e => hs (by rw [e])))
    have DF := Lib.hid (show decide (I.sup = J.sup) = false from decide_eq_false hs)
    have HB0 := Lib.hid (show Below w.heap.size w ((w.alloc (.cells #[.slice A I.sup.length c, .slice A2 I.arcs.length d] 25)).alloc (.cells #[.slice B J.sup.length c', .slice B2 J.arcs.length d'] 25)) from ((Below.refl _ _).alloc (Nat.le_refl _) _).alloc (by simp) _)
    have NU := Lib.hid (fun w' (h : Below w.heap.size w w') => rnums_any A B I.sup J.sup I.sup.length J.sup.length c c' rfl rfl (by have := hI.n; unfold maxLen; omega) w' (hI.later h).sup (hJ.later h).sup)
    clear hI hJ hs
    go_enter Try.func26, Try.ntmps26
    go_wp2_with (go_at_call 46; refine (NU.out _ HB0.out).mono ?_; rintro e w1 ⟨rfl, hb1⟩; rw [DF.out])
    go_ret
    exact ⟨by rw [D.out]; rfl, chain2 HB0.out hb1⟩
end Go.Proofs.Ytekjbpdfginplaa.Inst

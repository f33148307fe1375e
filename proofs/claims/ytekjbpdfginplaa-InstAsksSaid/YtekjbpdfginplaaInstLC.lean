/- What the landed layer 3 does: the same instances. -/
import Derived.Test.YtekjbpdfginplaaInstE
namespace Go.Proofs.Ytekjbpdfginplaa.Inst
open Go.RowKit

theorem eqn_len (a b : Option Addr) (n m c d : Nat) (h : n ≠ m) (w : World) :
    Calls Try.prog 40 #[.slice a n c, .slice b m d] w fun e w' => e = .returned (.bool false) ∧ Below w.heap.size w w' := by
  have h1 : ((n : Int) != (m : Int)) = true := by simp; omega
  go_enter Try.func40, Try.ntmps40
  go_wp2_with fail
  go_ret
  exact ⟨rfl, Below.refl _ _⟩
set_option maxHeartbeats 1000000 in
theorem eqn_eqlen (a b : Option Addr) (xs ys : List Int) (c d : Nat) (hn : xs.length ≤ 17592186044416) (h : xs.length = ys.length) (w : World) (ha : Cells w w.heap.size a (numV xs)) (hb : Cells w w.heap.size b (numV ys)) :
    Calls Try.prog 40 #[.slice a xs.length c, .slice b xs.length d] w fun e w' => e = .returned (.bool (decide (xs = ys))) ∧ Below w.heap.size w w' := by
  have HA := Lib.hid ha
  have HB := Lib.hid hb
  have HL := Lib.hid h
  have h1 : ((xs.length : Int) != (xs.length : Int)) = false := by simp
  clear ha hb h
  go_enter Try.func40, Try.ntmps40
  go_wp2_with fail
  go_loopw [13] (fun q u => SameRel w xs ys q u) (fun q _ => xs.length - (intOf q).toNat)
  case atStart => exact ⟨0, 0, by omega, rfl, by simp, rfl⟩
  case round =>
    obtain ⟨k, m, hk, rfl, ht, rfl⟩ := hrel
    have HT := Lib.hid ht
    clear ht
    by_cases hlt : k < xs.length
    · have hlt2 : k < ys.length := by have := HL.out; omega
      obtain ⟨ba, oa, ea, _, ca⟩ := nums_at HA.out (by omega)
      obtain ⟨bb, ob, eb, _, cb⟩ := nums_at HB.out (by omega)
      have c1 := ca k hlt
      have c2 := cb k hlt2
      have EA := Lib.hid ea
      have EB := Lib.hid eb
      rw [EA.out, EB.out]
      have i0 : (0 : Int) ≤ (k : Int) := by omega
      have i1 : (k : Int) < (xs.length : Int) := by omega
      obtain ⟨x, hx⟩ : ∃ x, x = xs[k] := ⟨_, rfl⟩
      obtain ⟨y, hy⟩ : ∃ y, y = ys[k] := ⟨_, rfl⟩
      rw [← hx] at c1
      rw [← hy] at c2
      have HX := Lib.hid hx
      have HY := Lib.hid hy
      clear ca cb ea eb hx hy
      by_cases e : x = y
      · have t : (x != y) = false := by simp [e]
        have HE := Lib.hid e
        clear e
        go_wp2_with fail
        go_quiet (fail)
        go_wp2_with fail
        have E := same_step xs ys k hlt hlt2 HT.out (HX.out.symm.trans (HE.out.trans HY.out))
        exact ⟨⟨k + 1, _, by omega, by simp, E, rfl⟩, by simp [intOf]; omega⟩
      · have t : (x != y) = true := by simp [e]
        have D := Lib.hid (show decide (xs = ys) = false by
          apply decide_eq_false
          intro hq
          apply e
          rw [HX.out, HY.out]
          simp [hq])
        clear e
        go_wp2_with fail
        go_quiet (fail)
        go_wp2_with fail
        go_ret
        exact ⟨by rw [D.out]; rfl, below_drewN (below_drewN (Below.refl _ _) _) _⟩
    · obtain rfl : k = xs.length := by omega
      have D := Lib.hid (show decide (xs = ys) = true by
        apply decide_eq_true
        have q := HT.out
        rw [List.take_length, HL.out, List.take_length] at q
        exact q)
      go_wp2_with fail
      go_ret
      exact ⟨by rw [D.out]; rfl, below_drewN (Below.refl _ _) _⟩
theorem eqn_any (a b : Option Addr) (xs ys : List Int) (n m c d : Nat) (hn : xs.length = n) (hm : ys.length = m) (hx : xs.length ≤ 17592186044416) (w : World) (ha : Cells w w.heap.size a (numV xs)) (hb : Cells w w.heap.size b (numV ys)) (r : Bool) (hr : decide (xs = ys) = r) :
    Calls Try.prog 40 #[.slice a n c, .slice b m d] w fun e w' => e = .returned (.bool r) ∧ Below w.heap.size w w' := by
  subst hn hm hr
  by_cases h : xs.length = ys.length
  · have q := eqn_eqlen a b xs ys c d hx h w ha hb
    rw [← h]
    exact q
  · rw [show decide (xs = ys) = false from decide_eq_false (fun e => h (by rw [e]))]
    exact eqn_len a b _ _ c d h w

theorem eqa_len (a b : Option Addr) (n m c d : Nat) (h : n ≠ m) (w : World) :
    Calls Try.prog 41 #[.slice a n c, .slice b m d] w fun e w' => e = .returned (.bool false) ∧ Below w.heap.size w w' := by
  have h1 : ((n : Int) != (m : Int)) = true := by simp; omega
  go_enter Try.func41, Try.ntmps41
  go_wp2_with fail
  go_ret
  exact ⟨rfl, Below.refl _ _⟩
set_option maxHeartbeats 1000000 in
theorem eqa_eqlen (a b : Option Addr) (xs ys : List ArcD) (c d : Nat) (hn : xs.length ≤ 17592186044416) (h : xs.length = ys.length) (w : World) (ha : Cells w w.heap.size a (arcV xs)) (hb : Cells w w.heap.size b (arcV ys)) :
    Calls Try.prog 41 #[.slice a xs.length c, .slice b xs.length d] w fun e w' => e = .returned (.bool (decide (xs = ys))) ∧ Below w.heap.size w w' := by
  have HA := Lib.hid ha
  have HB := Lib.hid hb
  have HL := Lib.hid h
  have h1 : ((xs.length : Int) != (xs.length : Int)) = false := by simp
  clear ha hb h
  go_enter Try.func41, Try.ntmps41
  go_wp2_with fail
  go_loopw [13] (fun q u => SameRel w xs ys q u) (fun q _ => xs.length - (intOf q).toNat)
  case atStart => exact ⟨0, 0, by omega, rfl, by simp, rfl⟩
  case round =>
    obtain ⟨k, m, hk, rfl, ht, rfl⟩ := hrel
    have HT := Lib.hid ht
    clear ht
    by_cases hlt : k < xs.length
    · have hlt2 : k < ys.length := by have := HL.out; omega
      obtain ⟨ba, oa, ea, _, ca⟩ := arcs_at HA.out (by omega)
      obtain ⟨bb, ob, eb, _, cb⟩ := arcs_at HB.out (by omega)
      have c1 := ca k hlt
      have c2 := cb k hlt2
      have EA := Lib.hid ea
      have EB := Lib.hid eb
      rw [EA.out, EB.out]
      have i0 : (0 : Int) ≤ (k : Int) := by omega
      have i1 : (k : Int) < (xs.length : Int) := by omega
      obtain ⟨x, hx⟩ : ∃ x, x = xs[k] := ⟨_, rfl⟩
      obtain ⟨y, hy⟩ : ∃ y, y = ys[k] := ⟨_, rfl⟩
      rw [← hx] at c1
      rw [← hy] at c2
      have HX := Lib.hid hx
      have HY := Lib.hid hy
      clear ca cb ea eb hx hy
      obtain ⟨x1, x2, x3, x4, x5⟩ := c1
      obtain ⟨y1, y2, y3, y4, y5⟩ := c2
      have nq := fun w => neq_arc x y w
      by_cases e : x = y
      · rw [decide_eq_true e] at nq
        have HE := Lib.hid e
        clear e
        go_wp2_with fail
        go_quiet (fail)
        go_wp2_with fail
        have E := same_step xs ys k hlt hlt2 HT.out (HX.out.symm.trans (HE.out.trans HY.out))
        exact ⟨⟨k + 1, _, by omega, by simp, E, rfl⟩, by simp [intOf]; omega⟩
      · rw [decide_eq_false e] at nq
        have D := Lib.hid (show decide (xs = ys) = false by
          apply decide_eq_false
          intro hq
          apply e
          rw [HX.out, HY.out]
          simp [hq])
        clear e
        go_wp2_with fail
        go_quiet (fail)
        go_wp2_with fail
        go_ret
        exact ⟨by rw [D.out]; rfl, below_drewN (below_drewN (Below.refl _ _) _) _⟩
    · obtain rfl : k = xs.length := by omega
      have D := Lib.hid (show decide (xs = ys) = true by
        apply decide_eq_true
        have q := HT.out
        rw [List.take_length, HL.out, List.take_length] at q
        exact q)
      go_wp2_with fail
      go_ret
      exact ⟨by rw [D.out]; rfl, below_drewN (Below.refl _ _) _⟩
theorem eqa_any (a b : Option Addr) (xs ys : List ArcD) (n m c d : Nat) (hn : xs.length = n) (hm : ys.length = m) (hx : xs.length ≤ 17592186044416) (w : World) (ha : Cells w w.heap.size a (arcV xs)) (hb : Cells w w.heap.size b (arcV ys)) (r : Bool) (hr : decide (xs = ys) = r) :
    Calls Try.prog 41 #[.slice a n c, .slice b m d] w fun e w' => e = .returned (.bool r) ∧ Below w.heap.size w w' := by
  subst hn hm hr
  by_cases h : xs.length = ys.length
  · have q := eqa_eqlen a b xs ys c d hx h w ha hb
    rw [← h]
    exact q
  · rw [show decide (xs = ys) = false from decide_eq_false (fun e => h (by rw [e]))]
    exact eqa_len a b _ _ c d h w

theorem inst_ext (I J : InstD) : decide (I = J) = (decide (I.sup = J.sup) && decide (I.arcs = J.arcs)) := by
  cases I; cases J
  simp only [InstD.mk.injEq]
  rw [Bool.eq_iff_iff]
  simp

/-- Same. -/
theorem same_any (A A2 B B2 : Option Addr) (c d c' d' : Nat) (I J : InstD) (w : World) (hI : InstIs w A A2 I) (hJ : InstIs w B B2 J) :
    Calls Try.prog 23 #[instV A c A2 d I, instV B c' B2 d' J] w fun e w' => e = .returned (.bool (decide (I = J))) ∧ Below w.heap.size w w' := by
  obtain ⟨p, hp⟩ : ∃ p, decide (I.sup = J.sup) = p := ⟨_, rfl⟩
  obtain ⟨q, hq⟩ : ∃ q, decide (I.arcs = J.arcs) = q := ⟨_, rfl⟩
  have HB0 := Lib.hid (show Below w.heap.size w ((w.alloc (.cells #[.slice A I.sup.length c, .slice A2 I.arcs.length d] 25)).alloc (.cells #[.slice B J.sup.length c', .slice B2 J.arcs.length d'] 25)) from ((Below.refl _ _).alloc (Nat.le_refl _) _).alloc (by simp) _)
  have NU := Lib.hid (fun w' (h : Below w.heap.size w w') => eqn_any A B I.sup J.sup I.sup.length J.sup.length c c' rfl rfl hI.n w' (hI.later h).sup (hJ.later h).sup p hp)
  have NA := Lib.hid (fun w' (h : Below w.heap.size w w') => eqa_any A2 B2 I.arcs J.arcs I.arcs.length J.arcs.length d d' rfl rfl hI.m w' (hI.later h).arcs (hJ.later h).arcs q hq)
  have E := Lib.hid (inst_ext I J)
  rw [hp, hq] at E
  clear hp hq hI hJ
  cases p with
  | false =>
    go_enter Try.func23, Try.ntmps23
    go_wp2_with (go_at_call 40; (with_reducible refine (NU.out _ HB0.out).mono ?_); rintro e w1 ⟨rfl, hb1⟩)
    go_ret
    exact ⟨by rw [E.out]; rfl, chain2 HB0.out hb1⟩
  | true =>
    go_enter Try.func23, Try.ntmps23
    go_wp2_with (first
      | (go_at_call 40; (with_reducible refine (NU.out _ HB0.out).mono ?_); rintro e w1 ⟨rfl, hb1⟩; obtain ⟨bc, bf⟩ := bcell hb1; have HB1 := Lib.hid (chain2 HB0.out hb1); have bz := hb1.size; clear hb1; simp at bc)
      | (go_at_call 41; (with_reducible refine (NA.out _ HB1.out).mono ?_); rintro e w2 ⟨rfl, hb2⟩))
    go_ret
    exact ⟨by rw [E.out]; rfl, chain2 HB1.out hb2⟩
end Go.Proofs.Ytekjbpdfginplaa.Inst

/- Contracts of the document's answers for layer 4: arcs out of a node, into it, at it; loops; other ends; an arc. -/
import Derived.Test.YtajckihgfelbaaaAdjB
namespace Go.Proofs.Ytajckihgfelbaaa.Adj
open Go.RowKit Go.Proofs.Ytajckihgfelbaaa.Inst
set_option maxRecDepth 100000

/-- At the head of the loop of Loops. -/
def LoopRel (w : World) (I : InstD) (n : Int) (s5 s6 : Value) (u : World) : Prop :=
  ∃ k : Nat, k ≤ I.arcs.length ∧ s6 = .int .i64 (k : Int) ∧ s5 = .int .i64 (loopsN I n k : Int) ∧ Below w.heap.size w u

/-- What Arc tells. -/
def TellsArc (x : ArcD) (f : Bool) (w : World) (e : Ending) (w' : World) : Prop := e = .returned (.tuple #[aggV x, .bool f]) ∧ Below w.heap.size w w'
set_option maxHeartbeats 4000000 in
theorem rarc_any (A A2 : Option Addr) (c d nn m : Nat) (I : InstD) (a : Int) (x : ArcD) (f : Bool) (hx : arcD I a = x) (hf : fitD I a = f) (w : World) (h : Here w A A2 nn m I) :
    Calls Try.prog 79 #[.agg #[.slice A nn c, .slice A2 m d], .int .i64 a] w (TellsArc x f w) := by
  obtain ⟨W1, hW1⟩ : ∃ W1, W1 = (w.alloc (.cells #[.slice A nn c, .slice A2 m d] 25)).alloc (.cells #[.int .i64 0, .int .i64 0, .int .i64 0, .int .i64 0, .int .i64 0] 36) := ⟨_, rfl⟩
  have B1 := Lib.hid (show Below w.heap.size w W1 by rw [hW1]; exact ((Below.refl _ _).alloc (Nat.le_refl _) _).alloc (by simp) _)
  obtain ⟨p, hp⟩ : ∃ p, p = w.heap.size := ⟨_, rfl⟩
  obtain ⟨q, hq⟩ : ∃ q, q = w.heap.size + 1 := ⟨_, rfl⟩
  have BX := Lib.hid (show Blk W1 p 25 #[.slice A nn c, .slice A2 m d] by rw [hW1]; exact (blk_at hp.symm _ _).alloc _)
  have BR := Lib.hid (show Blk W1 q 36 (arcCs ⟨0, 0, 0, 0, 0⟩) by rw [hW1, hq]; exact blk_at (by simp) _ _)
  have FI := Lib.hid (fit_any A A2 c d nn m I a W1 (h.later B1.out))
  have H1 := Lib.hid (h.later B1.out)
  have hm := h.m
  have hm9 := h.is.m
  rw [hm] at hm9
  have qz : w.heap.size ≤ q := by omega
  have HW := Lib.hid hW1
  have HP := Lib.hid hp
  have HQ := Lib.hid hq
  have x0 := BX.out.cell 0
  have x1 := BX.out.cell 1
  have x2 := BX.out.lt
  simp at x0 x1
  clear hW1 hp hq h
  cases f with
  | false =>
    have R := Lib.hid (show x = ⟨0, 0, 0, 0, 0⟩ by rw [← hx]; unfold arcD; rw [hf]; rfl)
    rw [hf] at FI
    clear hx hf
    go_enter Try.func79, Try.ntmps79
    go_upto_region 1 with fail
    rw [← HW.out, ← HQ.out, ← HP.out]
    go_wp2_with (go_at_call 104; (with_reducible refine FI.out.mono ?_); rintro e w2 ⟨rfl, hb⟩; have HB2 := Lib.hid hb; have BR2 := Lib.hid (BR.out.below hb BR.out.lt); have y0 := BR2.out.cell 0; have y1 := BR2.out.cell 1; have y2 := BR2.out.cell 2; have y3 := BR2.out.cell 3; have y4 := BR2.out.cell 4; simp at y0 y1 y2 y3 y4; have f0 := BR2.out.frozen 0; have f1 := BR2.out.frozen 1; have f2 := BR2.out.frozen 2; have f3 := BR2.out.frozen 3; have f4 := BR2.out.frozen 4; have y5 := BR2.out.lt; clear hb)
    refine bodyPost_ret (v := .tuple #[aggV ⟨0, 0, 0, 0, 0⟩, .bool false]) ?_ rfl ⟨by rw [R.out], ((((((chain2 B1.out HB2.out).setCell qz _).setCell qz _).setCell qz _).setCell qz _).setCell qz _)⟩
    exact (results_row_tmp (p := 4) (u := 5) (ty := 36) rfl _ _ q 36 (arcCs ⟨0, 0, 0, 0, 0⟩) (0, 0) _ (by rfl) (((((BR2.out.set_ 0 _).set_ 1 _).set_ 2 _).set_ 3 _).set_ 4 _) Try.underlying36 rfl size_arc).trans rfl
  | true =>
    have ff := hf
    unfold fitD at ff
    have ff := of_decide_eq_true ff
    obtain ⟨k, rfl⟩ : ∃ k : Nat, a = k := ⟨a.toNat, by omega⟩
    have km : k < m := by omega
    have R := Lib.hid (show x = arcAt I.arcs k by rw [← hx]; unfold arcD; rw [hf]; rfl)
    obtain ⟨b, off, ea, lb, z⟩ := H1.out.arc k km
    rw [← R.out] at z
    rw [hf] at FI
    have Z := Lib.hid z
    have EA := Lib.hid ea
    have k0 : (0 : Int) ≤ (k : Int) := by omega
    have k1 : (k : Int) < (m : Int) := by omega
    rw [ea] at FI x1 BX
    clear hx hf ff z
    subst ea
    go_enter Try.func79, Try.ntmps79
    go_upto_region 1 with fail
    rw [← HW.out, ← HQ.out, ← HP.out]
    go_wp2_with (go_at_call 104; (with_reducible refine FI.out.mono ?_); rintro e w2 ⟨rfl, hb⟩; obtain ⟨bc, bf⟩ := bcell hb; obtain ⟨z0, z1, z2, z3, z4⟩ := Z.out; have v0 := (bc b _ lb).trans z0; have v1 := (bc b _ lb).trans z1; have v2 := (bc b _ lb).trans z2; have v3 := (bc b _ lb).trans z3; have v4 := (bc b _ lb).trans z4; have u1 := (bc p 1 x2).trans x1; have HB2 := Lib.hid hb; have BR2 := Lib.hid (BR.out.below hb BR.out.lt); have y0 := BR2.out.cell 0; have y1 := BR2.out.cell 1; have y2 := BR2.out.cell 2; have y3 := BR2.out.cell 3; have y4 := BR2.out.cell 4; simp at y0 y1 y2 y3 y4; have f0 := BR2.out.frozen 0; have f1 := BR2.out.frozen 1; have f2 := BR2.out.frozen 2; have f3 := BR2.out.frozen 3; have f4 := BR2.out.frozen 4; have y5 := BR2.out.lt; clear hb bc bf z0 z1 z2 z3 z4)
    refine bodyPost_ret (v := .tuple #[aggV x, .bool true]) ?_ rfl ⟨rfl, ((((((chain2 B1.out HB2.out).setCell qz _).setCell qz _).setCell qz _).setCell qz _).setCell qz _)⟩
    exact (results_row_tmp (p := 4) (u := 5) (ty := 36) rfl _ _ q 36 (arcCs x) (0, 0) _ (by rfl) (((((BR2.out.set_ 0 _).set_ 1 _).set_ 2 _).set_ 3 _).set_ 4 _) Try.underlying36 rfl size_arc).trans rfl
end Go.Proofs.Ytajckihgfelbaaa.Adj

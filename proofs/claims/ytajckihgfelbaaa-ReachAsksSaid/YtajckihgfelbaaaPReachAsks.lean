/- quittancelaw06.ReachAsks: for every input the law returns true, and each argument reads afterwards as it read before. No condition beyond the statement's own. -/
import Derived.Test.YtajckihgfelbaaaRchAf
import Derived.SizedLaws
import Derived.WalkKit
import Derived.ProofKit
import Derived.OpenShut
import Derived.ShutString
import Derived.ChangeOld
import Derived.Below
import Derived.Lib.SmallJoins
namespace Go.Proofs.Ytajckihgfelbaaa.reachAsks
open Go.Proofs.Ytajckihgfelbaaa.Inst Go.Proofs.Ytajckihgfelbaaa.Adj Go.Proofs.Ytajckihgfelbaaa.Rch
open Go.ChangeShapes Go.WideShapes Go.ChangeAt Go.RowKit Go.Joins
open Go.ChangeMaps (open_string shut_string)
set_option linter.unusedVariables false

theorem own : ownKnob Try.prog.godebug = none := by kernel_rfl
theorem laidOut : laidOutB Try.prog = true := by kernel_rfl

set_option maxRecDepth 100000 in
set_option maxHeartbeats 2000000 in
theorem lifted (os : Os) (started : os.Started) (H : Type) (enc : TypeId × Value → H) :
    ReturnsInHanded {} Try.checked os 8 .any (Rows.reachAsksSpec.pre6 enc Try.prog Try.f8 Rows.reachAsksRow.domain false) (Rows.reachAsksSpec.post enc Try.prog Try.f8 false true false false) := by
  refine returnsInHanded_of_change_sized (C := Try.checked) own started (by kernel_rfl) Try.func8
    (ChangeSpec.witness6 (enc := enc) (C := Try.checked) false ⟨#[], #[.agg #[.slice none 0 0, .slice none 0 0], .slice none 0 0, .slice none 0 0, .slice none 0 0, .slice none 0 0], []⟩ 8 (by kernel_rfl) (by kernel_rfl) (by kernel_rfl) (by kernel_rfl)) ?_
  intro W base args ds gs before hval0 hW hcnd hsz _
  have hval : ∀ (j : Nat) t v, Try.f8.params[j]? = some t → args[j]? = some v → Value.okWide Try.prog W .any base t v := hval0
  have hW' := hW
  obtain ⟨p, q, hA0, hV, rfl, hfz, hnd⟩ := hW
  have hA : DataW.TrodAll enc Try.prog W 0 (fun _ => true) true Try.f8.params.toList args.toList ds p := hA0
  rw [Try.params8] at hA hval
  obtain ⟨v0, vs0, d0, ds0, p0, q0, hargs, rfl, rfl, h0, r0⟩ := trodAll_cons hA
  obtain ⟨v1, vs1, d1, ds1, p1, q1, rfl, rfl, rfl, h1, r1⟩ := trodAll_cons r0
  obtain ⟨v2, vs2, d2, ds2, p2, q2, rfl, rfl, rfl, h2, r2⟩ := trodAll_cons r1
  obtain ⟨v3, vs3, d3, ds3, p3, q3, rfl, rfl, rfl, h3, r3⟩ := trodAll_cons r2
  obtain ⟨v4, vs4, d4, ds4, p4, q4, rfl, rfl, rfl, h4, r4⟩ := trodAll_cons r3
  obtain ⟨rfl, rfl, rfl⟩ := trodAll_nil r4
  obtain rfl : args = #[v0, v1, v2, v3, v4] := by cases args; simp_all
  obtain ⟨rfl, rfl⟩ := trodVars_none hV
  have k0 := h0
  have lt0 : ∀ x ∈ p0, x.block < W.heap.size := by obtain ⟨m, hm⟩ := k0; exact DataW.trod_lt m _ _ _ hm
  have k1 := h1
  have lt1 : ∀ x ∈ p1, x.block < W.heap.size := by obtain ⟨m, hm⟩ := k1; exact DataW.trod_lt m _ _ _ hm
  have k2 := h2
  have lt2 : ∀ x ∈ p2, x.block < W.heap.size := by obtain ⟨m, hm⟩ := k2; exact DataW.trod_lt m _ _ _ hm
  have k3 := h3
  have lt3 : ∀ x ∈ p3, x.block < W.heap.size := by obtain ⟨m, hm⟩ := k3; exact DataW.trod_lt m _ _ _ hm
  have k4 := h4
  have lt4 : ∀ x ∈ p4, x.block < W.heap.size := by obtain ⟨m, hm⟩ := k4; exact DataW.trod_lt m _ _ _ hm
  obtain ⟨s0, t0, c0, b0, x0, e0, w0⟩ := open_inst (hval 0 25 v0 rfl rfl) h0 (sized_of hsz (j := 0) rfl rfl)
  subst e0
  obtain ⟨s1, l1, c1, e1⟩ := okWide_slice Try.underlying32 (hval 1 32 v1 rfl rfl)
  subst e1
  obtain ⟨xs1, y1, z1, q1, w1⟩ := open_nums h1 (sized_of hsz (j := 1) rfl rfl)
  obtain ⟨s2, l2, c2, e2⟩ := okWide_slice Try.underlying26 (hval 2 26 v2 rfl rfl)
  subst e2
  obtain ⟨xs2, y2, z2, q2, w2⟩ := open_octs h2 (sized_of hsz (j := 2) rfl rfl)
  obtain ⟨s3, l3, c3, e3⟩ := okWide_slice Try.underlying26 (hval 3 26 v3 rfl rfl)
  subst e3
  obtain ⟨xs3, y3, z3, q3, w3⟩ := open_octs h3 (sized_of hsz (j := 3) rfl rfl)
  obtain ⟨s4, l4, c4, e4⟩ := okWide_slice Try.underlying26 (hval 4 26 v4 rfl rfl)
  subst e4
  obtain ⟨xs4, y4, z4, q4, w4⟩ := open_octs h4 (sized_of hsz (j := 4) rfl rfl)
  clear hA0 hval0
  refine (reachAsks_walk s0 t0 c0 b0 x0 w0 s1 l1 c1 xs1 y1 z1 q1 w1 s2 l2 c2 xs2 y2 z2 q2 w2 s3 l3 c3 xs3 y3 z3 q3 w3 s4 l4 c4 xs4 y4 z4 q4 w4).mono fun e W' ⟨he, bel⟩ => ?_
  subst he
  exact ⟨_, rfl, _, _, _, [], _, [], hW', trodAll_mk1 (shut_bool Try.underlying4 _), (trodAll_cons_mk (Below.trod laidOut (by kernel_rfl) (of_decide_eq_true (by kernel_rfl)) k0 bel lt0) (trodAll_cons_mk (Below.trod laidOut (by kernel_rfl) (of_decide_eq_true (by kernel_rfl)) k1 bel lt1) (trodAll_cons_mk (Below.trod laidOut (by kernel_rfl) (of_decide_eq_true (by kernel_rfl)) k2 bel lt2) (trodAll_cons_mk (Below.trod laidOut (by kernel_rfl) (of_decide_eq_true (by kernel_rfl)) k3 bel lt3) (trodAll_cons_mk (Below.trod laidOut (by kernel_rfl) (of_decide_eq_true (by kernel_rfl)) k4 bel lt4) trodAll_mk0))))), rfl, bel.frame _, fun h => by cases h⟩

theorem over : Rows.reachAsksRow.holds Try.pinned (OpenSpec.ofChange Rows.reachAsksSpec) :=
  OpenClaim.holds_of_wide 8 Try.f8 rfl rfl rfl rfl rfl rfl rfl ⟨rfl, rfl, rfl, rfl, rfl⟩ rfl rfl rfl rfl rfl (by kernel_rfl) Try.func8 (by kernel_rfl)
    (of_decide_eq_true (by kernel_rfl)) (by unfold Func.isWrapper; first | (rw [if_pos (by decide +kernel)]; kernel_rfl) | (rw [if_neg (by decide +kernel)]; exact ⟨rfl, rfl⟩))
    (fun os started H enc _ => lifted os started H enc)

/-- The statement. -/
theorem proved : Rows.ReachAsksSaid := over
#print axioms proved
end Go.Proofs.Ytajckihgfelbaaa.reachAsks

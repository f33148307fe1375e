/- What the landed layer 4 does: the ends of an arc, as a range over a function tells them. -/
import Derived.Test.YtajckihgfelbaaaAdjL2
namespace Go.Proofs.Ytajckihgfelbaaa.Adj
open Go.RowKit Go.Shelf Go.Proofs.Ytajckihgfelbaaa.Inst
set_option maxRecDepth 100000

/-- The nodes that an arc touches, each once. -/
def endsD (I : InstD) (a : Int) : List Nat :=
  if fitD I a = true then (if (arcAt I.arcs a.toNat).frm = (arcAt I.arcs a.toNat).to then [(arcAt I.arcs a.toNat).frm.toNat] else [(arcAt I.arcs a.toNat).frm.toNat, (arcAt I.arcs a.toNat).to.toNat]) else []
abbrev encN (k : Nat) : Array Value := #[.int .i64 (k : Int)]

theorem ends_any (q : Option Addr) (a : Int) (w : World) : Calls Try.prog 61 #[.pointer q, .int .i64 a] w fun e w' =>
    e = .returned (.func (.func 87) #[] #[.pointer (some ⟨w.heap.size, 0, none⟩), .pointer (some ⟨w.heap.size + 1, 0, none⟩)]) ∧
    w' = (w.alloc (.cells #[.pointer q] 52)).alloc (.cells #[.int .i64 a] 3) := by
  go_enter Try.func61, Try.ntmps61
  go_wp2_with fail
  go_ret
  exact ⟨rfl, rfl⟩

set_option maxRecDepth 100000 in
set_option maxHeartbeats 4000000 in
theorem ends_seq (n l b1 b2 : Nat) (t1 t2 : TypeId) (q : Option Addr) (I : InstD) (a : Int) (ha : I64 a) (p : Nat → Prop) (J : List Nat → World → Prop) (W : World)
    (hJ : ∀ pre A A', J pre A → Below A.heap.size A A' → J pre A')
    (hp : ∀ k, W.heap.size ≤ k → p k)
    (hY : ∀ pre x A, J pre A → pre ++ [x] <+: endsD I a → YieldAt Fence.wide (n - 1) Try.prog l (encN x) A fun e A' => e = .returned (.bool true) ∧ Stay p A A' ∧ J (pre ++ [x]) A')
    (h0 : J [] W) (hG : HalfV W q I) (hb1 : Blk W b1 t1 #[.pointer q]) (hb2 : Blk W b2 t2 #[.int .i64 a]) :
    CallsIn Fence.wide n Try.prog 87 #[.func (.yield l) #[] #[], .pointer (some ⟨b1, 0, none⟩), .pointer (some ⟨b2, 0, none⟩)] W fun e W' => (∃ v, e = .returned v) ∧ J (endsD I a) W' := by
  have x1 := hb1.cell 0
  have x2 := hb2.cell 0
  have x3 := hb1.lt
  have x4 := hb2.lt
  simp at x1 x2
  obtain ⟨x, hx⟩ : ∃ x, arcD I a = x := ⟨_, rfl⟩
  obtain ⟨f, hf⟩ : ∃ f, fitD I a = f := ⟨_, rfl⟩
  have AR := Lib.hid (arc_v q I a ha x f hx hf W hG)
  clear hb1 hb2
  cases f with
  | false =>
    have E := Lib.hid (show endsD I a = [] by unfold endsD; rw [hf]; rfl)
    rw [E.out]
    clear hY hG hf hx
    refine callsIn_of_wp Try.func87 rfl trivial ?_ rfl
    simp only [Try.ntmps87, List.size_toArray, List.length_cons, List.length_nil, Nat.reduceAdd, Nat.reduceSub, Array.replicate_succ, Array.replicate_zero, List.push_toArray, List.append_toArray, List.nil_append, List.cons_append]
    gi_wp2_with (refine ⟨trivial, fun h => absurd h (by simp [Fence.wide]), ?_⟩; refine (callsIn_wide.2 AR.out).mono ?_; rintro e w' ⟨rfl, hb⟩; have HB := Lib.hid hb; have hz := hb.size; clear hb)
    refine ⟨fun _ h => (by cases h), ?_⟩
    gi_wp2
    refine ⟨trivial, ?_⟩
    gi_wp2
    refine bodyPost_ret (results_none rfl _ _ _) rfl ?_
    exact ⟨⟨_, rfl⟩, hJ _ _ _ h0 (HB.out.alloc hz _)⟩
  | true =>
    obtain ⟨y, hy⟩ : ∃ y, y = arcAt I.arcs a.toNat := ⟨_, rfl⟩
    have ex : x = y := by rw [← hx, hy]; unfold arcD; rw [hf]; rfl
    subst ex
    have ff := hf
    unfold fitD at ff
    have ff := of_decide_eq_true ff
    rw [← hy] at ff
    obtain ⟨y0, y1, y2, y3, y4⟩ := x
    simp only at ff
    obtain ⟨k1, hk1⟩ : ∃ k : Nat, y0 = k := ⟨y0.toNat, by omega⟩
    obtain ⟨k2, hk2⟩ : ∃ k : Nat, y1 = k := ⟨y1.toNat, by omega⟩
    subst hk1 hk2
    have E : endsD I a = if (k1 : Int) = (k2 : Int) then [k1] else [k1, k2] := by
      unfold endsD
      rw [if_pos hf, ← hy]
      simp
    have HG := Lib.hid hG
    have HJ := Lib.hid hJ
    have HY := Lib.hid hY
    have HP := Lib.hid hp
    clear hG hJ hY hp ff hy hx hf
    refine callsIn_of_wp Try.func87 rfl trivial ?_ rfl
    simp only [Try.ntmps87, List.size_toArray, List.length_cons, List.length_nil, Nat.reduceAdd, Nat.reduceSub, Array.replicate_succ, Array.replicate_zero, List.push_toArray, List.append_toArray, List.nil_append, List.cons_append]
    gi_wp2_with (refine ⟨trivial, fun h => absurd h (by simp [Fence.wide]), ?_⟩; refine (callsIn_wide.2 AR.out).mono ?_; rintro e w' ⟨rfl, hb⟩; have HB := Lib.hid hb; have hz := hb.size; clear hb)
    obtain ⟨W2, hW2⟩ : ∃ W2, W2 = w'.alloc (.cells #[.int .i64 (k1 : Int), .int .i64 (k2 : Int), .int .i64 y2, .int .i64 y3, .int .i64 y4] 36) := ⟨_, rfl⟩
    obtain ⟨g, hg⟩ : ∃ g, g = w'.heap.size := ⟨_, rfl⟩
    have BW := Lib.hid (show Below W.heap.size W W2 by rw [hW2]; exact HB.out.alloc hz _)
    have BG := Lib.hid (show Blk W2 g 36 #[.int .i64 (k1 : Int), .int .i64 (k2 : Int), .int .i64 y2, .int .i64 y3, .int .i64 y4] by rw [hW2]; exact blk_at hg.symm _ _)
    rw [← hW2, ← hg]
    obtain ⟨fn, tmps, assign, body, hy, hRd⟩ := HY.out [] k1 W2 (HJ.out _ _ _ h0 BW.out) (by rw [E]; split <;> exact ⟨_, rfl⟩)
    rw [hy]
    refine ⟨fun h => absurd h (by simp [Fence.wide]), hRd.mono ?_⟩
    rintro e W3 ⟨rfl, hs, hj3⟩
    have BG3 := hs.blk (HP.out g (by omega)) BG.out
    have z0 := BG3.cell 0
    have z1 := BG3.cell 1
    have z2 := BG3.cell 2
    have z3 := BG3.cell 3
    have z4 := BG3.cell 4
    have z5 := BG3.lt
    simp at z0 z1 z2 z3 z4
    have LP := Lib.hid (fun u => isloop_any ⟨k1, k2, y2, y3, y4⟩ u)
    clear BG3 hW2 hg hy hRd x1 x2 x3 x4
    gi_wp2_with (refine ⟨trivial, fun h => absurd h (by simp [Fence.wide]), ?_⟩; refine (callsIn_wide.2 (LP.out _)).mono ?_; rintro e w4 ⟨rfl, hb4⟩; have HB4 := Lib.hid hb4; have hz4 := hb4.size; have w1 := (hb4.cell (p := ⟨g, 1, none⟩) z5).trans z1; clear hb4)
    · have heq : (k1 : Int) = (k2 : Int) := by assumption
      refine bodyPost_ret (results_none rfl _ _ _) rfl ?_
      refine ⟨⟨_, rfl⟩, ?_⟩
      rw [E, if_pos heq]
      exact HJ.out _ _ _ hj3 HB4.out
    · have hne : ¬ (k1 : Int) = (k2 : Int) := by assumption
      obtain ⟨fn, tmps, assign, body, hy, hRd⟩ := HY.out [k1] k2 w4 (HJ.out _ _ _ hj3 HB4.out) (by rw [E, if_neg hne]; exact ⟨[], rfl⟩)
      rw [hy]
      refine ⟨fun h => absurd h (by simp [Fence.wide]), hRd.mono ?_⟩
      rintro e W5 ⟨rfl, hs5, hj5⟩
      clear hy hRd
      gi_wp2
      go_end0
      exact ⟨⟨_, rfl⟩, by rw [E, if_neg hne]; exact hj5⟩
end Go.Proofs.Ytajckihgfelbaaa.Adj

/- Contracts of the document's answers for layer 4: arcs out of a node, into it, at it; loops; other ends; an arc. -/
import Derived.Test.YtldjlclinckblaaAdjB
namespace Go.Proofs.Ytldjlclinckblaa.Adj
open Go.RowKit Go.Proofs.Ytldjlclinckblaa.Inst

theorem rout_any (A A2 : Option Addr) (c d nn m : Nat) (I : InstD) (n : Int) (l : List Nat) (hl : someD I n true false = l) (w : World) (h : Here w A A2 nn m I) (h9 : m ≤ 100000) :
    Calls Try.prog 22 #[.agg #[.slice A nn c, .slice A2 m d], .int .i64 n] w (TellsNats l w) := by
  subst hl
  have B1 := Lib.hid (show Below w.heap.size w (w.alloc (.cells #[.slice A nn c, .slice A2 m d] 25)) from (Below.refl _ _).alloc (Nat.le_refl _) _)
  have S := Lib.hid (some_any A A2 c d nn m I n true false _ (h.later B1.out) h9)
  clear h
  go_enter Try.func22, Try.ntmps22
  go_wp2_with (go_at_call 38; (with_reducible refine S.out.mono ?_); rintro e w1 ⟨NA, cap, rfl, h1, h2, hb, ho⟩)
  go_ret
  exact ⟨NA, cap, rfl, h1, h2, chain2 B1.out hb, own_base ho B1.out.size⟩
theorem rin_any (A A2 : Option Addr) (c d nn m : Nat) (I : InstD) (n : Int) (l : List Nat) (hl : someD I n false true = l) (w : World) (h : Here w A A2 nn m I) (h9 : m ≤ 100000) :
    Calls Try.prog 26 #[.agg #[.slice A nn c, .slice A2 m d], .int .i64 n] w (TellsNats l w) := by
  subst hl
  have B1 := Lib.hid (show Below w.heap.size w (w.alloc (.cells #[.slice A nn c, .slice A2 m d] 25)) from (Below.refl _ _).alloc (Nat.le_refl _) _)
  have S := Lib.hid (some_any A A2 c d nn m I n false true _ (h.later B1.out) h9)
  clear h
  go_enter Try.func26, Try.ntmps26
  go_wp2_with (go_at_call 38; (with_reducible refine S.out.mono ?_); rintro e w1 ⟨NA, cap, rfl, h1, h2, hb, ho⟩)
  go_ret
  exact ⟨NA, cap, rfl, h1, h2, chain2 B1.out hb, own_base ho B1.out.size⟩
theorem rat_any (A A2 : Option Addr) (c d nn m : Nat) (I : InstD) (n : Int) (l : List Nat) (hl : someD I n true true = l) (w : World) (h : Here w A A2 nn m I) (h9 : m ≤ 100000) :
    Calls Try.prog 23 #[.agg #[.slice A nn c, .slice A2 m d], .int .i64 n] w (TellsNats l w) := by
  subst hl
  have B1 := Lib.hid (show Below w.heap.size w (w.alloc (.cells #[.slice A nn c, .slice A2 m d] 25)) from (Below.refl _ _).alloc (Nat.le_refl _) _)
  have S := Lib.hid (some_any A A2 c d nn m I n true true _ (h.later B1.out) h9)
  clear h
  go_enter Try.func23, Try.ntmps23
  go_wp2_with (go_at_call 38; (with_reducible refine S.out.mono ?_); rintro e w1 ⟨NA, cap, rfl, h1, h2, hb, ho⟩)
  go_ret
  exact ⟨NA, cap, rfl, h1, h2, chain2 B1.out hb, own_base ho B1.out.size⟩

/-- At the head of the loop of Loops. -/
def LoopRel (w : World) (I : InstD) (n : Int) (s5 s6 : Value) (u : World) : Prop :=
  ∃ k : Nat, k ≤ I.arcs.length ∧ s6 = .int .i64 (k : Int) ∧ s5 = .int .i64 (loopsN I n k : Int) ∧ Below w.heap.size w u

set_option maxRecDepth 100000 in
set_option maxHeartbeats 8000000 in
theorem rloops_any (A A2 : Option Addr) (c d nn m : Nat) (I : InstD) (n : Int) (r : Int) (hr : (loopsD I n : Int) = r) (w : World) (h : Here w A A2 nn m I) (h9 : m ≤ 100000) :
    Calls Try.prog 27 #[.agg #[.slice A nn c, .slice A2 m d], .int .i64 n] w fun e w' => e = .returned (.int .i64 r) ∧ Below w.heap.size w w' := by
  subst hr
  have H := Lib.hid h
  have HM := Lib.hid h.m
  have FI := Lib.hid (fun (a : Int) w' (hw : Below w.heap.size w w') => fit_any A A2 c d nn m I a w' (h.later hw))
  clear h
  go_enter Try.func27, Try.ntmps27
  go_wp2_with fail
  obtain ⟨W1, hW1⟩ : ∃ W1, W1 = w.alloc (.cells #[.slice A nn c, .slice A2 m d] 25) := ⟨_, rfl⟩
  obtain ⟨p, hp⟩ : ∃ p, p = w.heap.size := ⟨_, rfl⟩
  have B1 := Lib.hid (show Below w.heap.size w W1 by rw [hW1]; exact (Below.refl _ _).alloc (Nat.le_refl _) _)
  have BX := Lib.hid (show Blk W1 p 25 #[.slice A nn c, .slice A2 m d] by rw [hW1]; exact blk_at hp.symm _ _)
  rw [← hW1, ← hp]
  clear hW1 hp
  go_loopw [5, 6] (fun v q u => LoopRel W1 I n v q u) (fun _ q _ => m - (intOf q).toNat)
  case atStart => exact ⟨0, by omega, rfl, rfl, Below.refl _ _⟩
  case round =>
    obtain ⟨k, hk, rfl, rfl, hB⟩ := hrel
    have HB := Lib.hid hB
    rw [HM.out] at hk
    have kl := loopsN_le I n k
    have bx := BX.out.below hB BX.out.lt
    have x0 := bx.cell 0
    have x1 := bx.cell 1
    have x2 := bx.lt
    simp at x0 x1
    clear hB bx
    by_cases hlt : k < m
    · obtain ⟨b, off, ea, lb, z0, z1, -, -, -⟩ := (H.out.later (chain2 B1.out HB.out)).arc k hlt
      have E := Lib.hid (loopsN_succ I n k)
      have FK := Lib.hid (FI.out (k : Int) wr (chain2 B1.out HB.out))
      obtain ⟨x, hx⟩ : ∃ x, x = arcAt I.arcs k := ⟨_, rfl⟩
      rw [← hx] at z0 z1 E
      obtain ⟨f, hf⟩ : ∃ f, f = fitD I (k : Int) := ⟨_, rfl⟩
      rw [← hf] at FK E
      rw [ea] at x1 FK
      have k0 : (0 : Int) ≤ (k : Int) := by omega
      have k1 : (k : Int) < (m : Int) := by omega
      obtain ⟨tf, htf⟩ : ∃ t, (x.frm == n) = t := ⟨_, rfl⟩
      obtain ⟨tt, htt⟩ : ∃ t, (x.to == n) = t := ⟨_, rfl⟩
      have htf2 : decide (x.frm = n) = tf := htf
      have htt2 : decide (x.to = n) = tt := htt
      rw [htf2, htt2] at E
      obtain ⟨L, hL⟩ : ∃ L, L = loopsN I n k := ⟨_, rfl⟩
      rw [← hL] at E kl ⊢
      clear hx hf ea htf2 htt2 hL
      cases f with
      | false =>
        have E2 := Lib.hid (show loopsN I n (k + 1) = L + 0 by rw [E.out]; simp)
        go_wp2_with (go_at_call 39; (with_reducible refine FK.out.mono ?_); rintro e w2 ⟨rfl, hb⟩; obtain ⟨bc, bf⟩ := bcell hb; have HB2 := Lib.hid hb; have y0 := (bc p 0 x2).trans x0; have y1 := (bc p 1 x2).trans x1; have y2 := (bc b (off + k * 5) lb).trans z0; have y3 := (bc b (off + k * 5 + 1) lb).trans z1; have y4 := hb.size; clear hb bc bf)
        exact ⟨⟨k + 1, by rw [HM.out]; omega, by simp, by rw [E2.out]; simp, chain2 HB.out HB2.out⟩, by simp [intOf]; omega⟩
      | true =>
        cases tf with
        | false =>
          have E2 := Lib.hid (show loopsN I n (k + 1) = L + 0 by rw [E.out]; simp)
          go_wp2_with (go_at_call 39; (with_reducible refine FK.out.mono ?_); rintro e w2 ⟨rfl, hb⟩; obtain ⟨bc, bf⟩ := bcell hb; have HB2 := Lib.hid hb; have y0 := (bc p 0 x2).trans x0; have y1 := (bc p 1 x2).trans x1; have y2 := (bc b (off + k * 5) lb).trans z0; have y3 := (bc b (off + k * 5 + 1) lb).trans z1; have y4 := hb.size; clear hb bc bf)
          exact ⟨⟨k + 1, by rw [HM.out]; omega, by simp, by rw [E2.out]; simp, chain2 HB.out HB2.out⟩, by simp [intOf]; omega⟩
        | true =>
          cases tt with
          | false =>
            have E2 := Lib.hid (show loopsN I n (k + 1) = L + 0 by rw [E.out]; simp)
            go_wp2_with (go_at_call 39; (with_reducible refine FK.out.mono ?_); rintro e w2 ⟨rfl, hb⟩; obtain ⟨bc, bf⟩ := bcell hb; have HB2 := Lib.hid hb; have y0 := (bc p 0 x2).trans x0; have y1 := (bc p 1 x2).trans x1; have y2 := (bc b (off + k * 5) lb).trans z0; have y3 := (bc b (off + k * 5 + 1) lb).trans z1; have y4 := hb.size; clear hb bc bf)
            exact ⟨⟨k + 1, by rw [HM.out]; omega, by simp, by rw [E2.out]; simp, chain2 HB.out HB2.out⟩, by simp [intOf]; omega⟩
          | true =>
            have E2 := Lib.hid (show loopsN I n (k + 1) = L + 1 by rw [E.out]; simp)
            go_wp2_with (go_at_call 39; (with_reducible refine FK.out.mono ?_); rintro e w2 ⟨rfl, hb⟩; obtain ⟨bc, bf⟩ := bcell hb; have HB2 := Lib.hid hb; have y0 := (bc p 0 x2).trans x0; have y1 := (bc p 1 x2).trans x1; have y2 := (bc b (off + k * 5) lb).trans z0; have y3 := (bc b (off + k * 5 + 1) lb).trans z1; have y4 := hb.size; clear hb bc bf)
            exact ⟨⟨k + 1, by rw [HM.out]; omega, by simp, by rw [E2.out]; simp, chain2 HB.out HB2.out⟩, by simp [intOf]; omega⟩
    · obtain rfl : k = m := by omega
      have ed : loopsN I n k = loopsD I n := by unfold loopsD; rw [HM.out]
      rw [ed]
      clear ed
      go_wp2_with fail
      go_ret
      exact ⟨rfl, chain2 B1.out HB.out⟩

set_option maxHeartbeats 4000000 in
theorem rother_any (A A2 : Option Addr) (c d nn m : Nat) (I : InstD) (a n r : Int) (hr : otherD I a n = r) (w : World) (h : Here w A A2 nn m I) :
    Calls Try.prog 28 #[.agg #[.slice A nn c, .slice A2 m d], .int .i64 a, .int .i64 n] w fun e w' => e = .returned (.int .i64 r) ∧ Below w.heap.size w w' := by
  have B1 := Lib.hid (show Below w.heap.size w (w.alloc (.cells #[.slice A nn c, .slice A2 m d] 25)) from (Below.refl _ _).alloc (Nat.le_refl _) _)
  have FI := Lib.hid (fit_any A A2 c d nn m I a _ (h.later B1.out))
  have hm := h.m
  by_cases f : fitD I a = true
  · have ff := f
    unfold fitD at ff
    have ff := of_decide_eq_true ff
    obtain ⟨k, rfl⟩ : ∃ k : Nat, a = k := ⟨a.toNat, by omega⟩
    have km : k < m := by omega
    have hm9 := h.is.m
    rw [hm] at hm9
    obtain ⟨b, off, ea, lb, z0, z1, -, -, -⟩ := h.arc k km
    unfold otherD at hr
    rw [if_neg (by rw [f]; simp), Int.toNat_natCast] at hr
    obtain ⟨x, hx⟩ : ∃ x, x = arcAt I.arcs k := ⟨_, rfl⟩
    rw [← hx] at z0 z1 hr
    rw [f] at FI
    subst ea
    have k0 : (0 : Int) ≤ (k : Int) := by omega
    have k1 : (k : Int) < (m : Int) := by omega
    have HR := Lib.hid hr
    clear hx ff f h hm hr
    by_cases e1 : x.frm = n
    · have t1 : (x.frm == n) = true := by simp [e1]
      have R := Lib.hid (show x.to = r by rw [← HR.out, if_pos e1])
      clear e1
      go_enter Try.func28, Try.ntmps28
      go_wp2_with (go_at_call 39; (with_reducible refine FI.out.mono ?_); rintro e w2 ⟨rfl, hb⟩; obtain ⟨bc, bf⟩ := bcell hb; have HB2 := Lib.hid hb; have y4 := hb.size; simp at bc y4; clear hb bf)
      go_ret
      exact ⟨by rw [← R.out]; rfl, chain2 B1.out HB2.out⟩
    · have t1 : (x.frm == n) = false := by simp [e1]
      by_cases e2 : x.to = n
      · have t2 : (x.to == n) = true := by simp [e2]
        have R := Lib.hid (show x.frm = r by rw [← HR.out, if_neg e1, if_pos e2])
        clear e1 e2
        go_enter Try.func28, Try.ntmps28
        go_wp2_with (go_at_call 39; (with_reducible refine FI.out.mono ?_); rintro e w2 ⟨rfl, hb⟩; obtain ⟨bc, bf⟩ := bcell hb; have HB2 := Lib.hid hb; have y4 := hb.size; simp at bc y4; clear hb bf)
        go_ret
        exact ⟨by rw [← R.out]; rfl, chain2 B1.out HB2.out⟩
      · have t2 : (x.to == n) = false := by simp [e2]
        have R := Lib.hid (show -1 = r by rw [← HR.out, if_neg e1, if_neg e2])
        clear e1 e2
        go_enter Try.func28, Try.ntmps28
        go_wp2_with (go_at_call 39; (with_reducible refine FI.out.mono ?_); rintro e w2 ⟨rfl, hb⟩; obtain ⟨bc, bf⟩ := bcell hb; have HB2 := Lib.hid hb; have y4 := hb.size; simp at bc y4; clear hb bf)
        go_ret
        exact ⟨by rw [← R.out]; rfl, chain2 B1.out HB2.out⟩
  · have f2 : fitD I a = false := by simpa using f
    have R := Lib.hid (show -1 = r by rw [← hr]; unfold otherD; rw [if_pos f2])
    rw [f2] at FI
    clear f f2 hr h hm
    go_enter Try.func28, Try.ntmps28
    go_wp2_with (go_at_call 39; (with_reducible refine FI.out.mono ?_); rintro e w2 ⟨rfl, hb⟩; have HB2 := Lib.hid hb; clear hb)
    go_ret
    exact ⟨by rw [← R.out]; rfl, chain2 B1.out HB2.out⟩

/-- What Arc tells. -/
def TellsArc (x : ArcD) (f : Bool) (w : World) (e : Ending) (w' : World) : Prop := e = .returned (.tuple #[aggV x, .bool f]) ∧ Below w.heap.size w w'
set_option maxHeartbeats 4000000 in
theorem rarc_any (A A2 : Option Addr) (c d nn m : Nat) (I : InstD) (a : Int) (x : ArcD) (f : Bool) (hx : arcD I a = x) (hf : fitD I a = f) (w : World) (h : Here w A A2 nn m I) :
    Calls Try.prog 25 #[.agg #[.slice A nn c, .slice A2 m d], .int .i64 a] w (TellsArc x f w) := by
  obtain ⟨W1, hW1⟩ : ∃ W1, W1 = (w.alloc (.cells #[.slice A nn c, .slice A2 m d] 25)).alloc (.cells #[.int .i64 0, .int .i64 0, .int .i64 0, .int .i64 0, .int .i64 0] 41) := ⟨_, rfl⟩
  have B1 := Lib.hid (show Below w.heap.size w W1 by rw [hW1]; exact ((Below.refl _ _).alloc (Nat.le_refl _) _).alloc (by simp) _)
  obtain ⟨p, hp⟩ : ∃ p, p = w.heap.size := ⟨_, rfl⟩
  obtain ⟨q, hq⟩ : ∃ q, q = w.heap.size + 1 := ⟨_, rfl⟩
  have BX := Lib.hid (show Blk W1 p 25 #[.slice A nn c, .slice A2 m d] by rw [hW1]; exact (blk_at hp.symm _ _).alloc _)
  have BR := Lib.hid (show Blk W1 q 41 (arcCs ⟨0, 0, 0, 0, 0⟩) by rw [hW1, hq]; exact blk_at (by simp) _ _)
  have FI := Lib.hid (fit_any A A2 c d nn m I a W1 (h.later B1.out))
  have H1 := Lib.hid (h.later B1.out)
  have hm := h.m
  have hm9 := h.is.m
  rw [hm] at hm9
  have qz : w.heap.size ≤ q := by omega
  have HW := Lib.hid hW1
  have HP := Lib.hid hp
  have HQ := Lib.hid hq
  have x0 := BX.out.cell 0
  have x1 := BX.out.cell 1
  have x2 := BX.out.lt
  simp at x0 x1
  clear hW1 hp hq h
  cases f with
  | false =>
    have R := Lib.hid (show x = ⟨0, 0, 0, 0, 0⟩ by rw [← hx]; unfold arcD; rw [hf]; rfl)
    rw [hf] at FI
    clear hx hf
    go_enter Try.func25, Try.ntmps25
    go_upto_region 1 with fail
    rw [← HW.out, ← HQ.out, ← HP.out]
    go_wp2_with (go_at_call 39; (with_reducible refine FI.out.mono ?_); rintro e w2 ⟨rfl, hb⟩; have HB2 := Lib.hid hb; have BR2 := Lib.hid (BR.out.below hb BR.out.lt); have y0 := BR2.out.cell 0; have y1 := BR2.out.cell 1; have y2 := BR2.out.cell 2; have y3 := BR2.out.cell 3; have y4 := BR2.out.cell 4; simp at y0 y1 y2 y3 y4; have f0 := BR2.out.frozen 0; have f1 := BR2.out.frozen 1; have f2 := BR2.out.frozen 2; have f3 := BR2.out.frozen 3; have f4 := BR2.out.frozen 4; have y5 := BR2.out.lt; clear hb)
    refine bodyPost_ret (v := .tuple #[aggV ⟨0, 0, 0, 0, 0⟩, .bool false]) ?_ rfl ⟨by rw [R.out], ((((((chain2 B1.out HB2.out).setCell qz _).setCell qz _).setCell qz _).setCell qz _).setCell qz _)⟩
    exact (results_row_tmp (p := 4) (u := 5) (ty := 41) rfl _ _ q 41 (arcCs ⟨0, 0, 0, 0, 0⟩) (0, 0) _ (by rfl) (((((BR2.out.set_ 0 _).set_ 1 _).set_ 2 _).set_ 3 _).set_ 4 _) Try.underlying41 rfl size_arc).trans rfl
  | true =>
    have ff := hf
    unfold fitD at ff
    have ff := of_decide_eq_true ff
    obtain ⟨k, rfl⟩ : ∃ k : Nat, a = k := ⟨a.toNat, by omega⟩
    have km : k < m := by omega
    have R := Lib.hid (show x = arcAt I.arcs k by rw [← hx]; unfold arcD; rw [hf]; rfl)
    obtain ⟨b, off, ea, lb, z⟩ := H1.out.arc k km
    rw [← R.out] at z
    rw [hf] at FI
    have Z := Lib.hid z
    have EA := Lib.hid ea
    have k0 : (0 : Int) ≤ (k : Int) := by omega
    have k1 : (k : Int) < (m : Int) := by omega
    rw [ea] at FI x1 BX
    clear hx hf ff z
    subst ea
    go_enter Try.func25, Try.ntmps25
    go_upto_region 1 with fail
    rw [← HW.out, ← HQ.out, ← HP.out]
    go_wp2_with (go_at_call 39; (with_reducible refine FI.out.mono ?_); rintro e w2 ⟨rfl, hb⟩; obtain ⟨bc, bf⟩ := bcell hb; obtain ⟨z0, z1, z2, z3, z4⟩ := Z.out; have v0 := (bc b _ lb).trans z0; have v1 := (bc b _ lb).trans z1; have v2 := (bc b _ lb).trans z2; have v3 := (bc b _ lb).trans z3; have v4 := (bc b _ lb).trans z4; have u1 := (bc p 1 x2).trans x1; have HB2 := Lib.hid hb; have BR2 := Lib.hid (BR.out.below hb BR.out.lt); have y0 := BR2.out.cell 0; have y1 := BR2.out.cell 1; have y2 := BR2.out.cell 2; have y3 := BR2.out.cell 3; have y4 := BR2.out.cell 4; simp at y0 y1 y2 y3 y4; have f0 := BR2.out.frozen 0; have f1 := BR2.out.frozen 1; have f2 := BR2.out.frozen 2; have f3 := BR2.out.frozen 3; have f4 := BR2.out.frozen 4; have y5 := BR2.out.lt; clear hb bc bf z0 z1 z2 z3 z4)
    refine bodyPost_ret (v := .tuple #[aggV x, .bool true]) ?_ rfl ⟨rfl, ((((((chain2 B1.out HB2.out).setCell qz _).setCell qz _).setCell qz _).setCell qz _).setCell qz _)⟩
    exact (results_row_tmp (p := 4) (u := 5) (ty := 41) rfl _ _ q 41 (arcCs x) (0, 0) _ (by rfl) (((((BR2.out.set_ 0 _).set_ 1 _).set_ 2 _).set_ 3 _).set_ 4 _) Try.underlying41 rfl size_arc).trans rfl
end Go.Proofs.Ytldjlclinckblaa.Adj

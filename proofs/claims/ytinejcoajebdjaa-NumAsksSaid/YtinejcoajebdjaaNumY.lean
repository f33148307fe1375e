/- What deeds make of a number: some wide number. -/
import Derived.Test.YtinejcoajebdjaaNumX
namespace Go.Proofs.Ytinejcoajebdjaa
open Go.RowKit

/-- What a call that tells some wide number does. -/
def SomeWide (w : World) (e : Ending) (w' : World) : Prop := ∃ v : Int, IsW v ∧ e = .returned (Wd v) ∧ Below w.heap.size w w'

theorem rplus_ac (v A x r : Int) (hv : IsW v) (hA : I64 A) (hx : U64 x) (hr : wr (v + (A * 18446744073709551616 + x)) = r) (w : World) :
    Calls Try.prog 29 #[Wd v, .agg #[.int .i64 A, .int .u64 x]] w fun e w' => e = .returned (Wd r) ∧ Below w.heap.size w w' := by
  have h := rplus_any v (A * 18446744073709551616 + x) r hv (IsW_of A x hA hx) hr w
  rw [show Wd (A * 18446744073709551616 + x) = .agg #[.int .i64 A, .int .u64 x] by rw [Wd, hi_of A x hx, lo_of A x hx]] at h
  exact h
theorem rminus_ac (v A x r : Int) (hv : IsW v) (hA : I64 A) (hx : U64 x) (hr : wr (v - (A * 18446744073709551616 + x)) = r) (w : World) :
    Calls Try.prog 30 #[Wd v, .agg #[.int .i64 A, .int .u64 x]] w fun e w' => e = .returned (Wd r) ∧ Below w.heap.size w w' := by
  have h := rminus_any v (A * 18446744073709551616 + x) r hv (IsW_of A x hA hx) hr w
  rw [show Wd (A * 18446744073709551616 + x) = .agg #[.int .i64 A, .int .u64 x] by rw [Wd, hi_of A x hx, lo_of A x hx]] at h
  exact h

/-- What holds at the head of the loop. -/
def WideRel (w : World) (l : Nat) (s : Value) (u : World) : Prop :=
  ∃ (k : Nat) (v : Int), k ≤ l ∧ k ≤ 40 ∧ s = .int .i64 (k : Int) ∧ IsW v ∧ WBlk u w.heap.size 0 ∧ WBlk u (w.heap.size + 1) v ∧ Below w.heap.size w u

set_option maxRecDepth 100000 in
set_option maxHeartbeats 4000000 in
theorem wide_any (s : Option Addr) (l c : Nat) (hm : l ≤ maxLen) (w : World) (hd : DeedsAt w w.heap.size s l) :
    Calls Try.prog 12 #[.slice s l c] w (SomeWide w) := by
  unfold maxLen at hm
  have HD := Lib.hid hd
  clear hd
  go_enter Try.func12, Try.ntmps12
  go_wp2_with fail
  go_loopw [4] (fun q u => WideRel w l q u) (fun q _ => 40 - (intOf q).toNat)
  case atStart =>
    refine ⟨0, 0, by omega, by omega, rfl, by unfold IsW; omega, (WBlk.new w 0).alloc _, ?_, (own2 w _ _).1⟩
    have q := WBlk.new (w.alloc (.cells #[.int .i64 0, .int .u64 0] 24)) 0
    simpa only [World.size_alloc, hi0, lo0] using q
  case round =>
    obtain ⟨k, v, hk, hk2, rfl, hv, r0, r1, rB⟩ := hrel
    have R0 := Lib.hid r0
    have R1 := Lib.hid r1
    have RB := Lib.hid rB
    have HV := Lib.hid hv
    clear r0 r1 rB hv
    by_cases hlt : k < l
    · by_cases h40 : k < 40
      · obtain ⟨b, off, hs, hb, hc⟩ := HD.out (by omega)
        obtain ⟨K, A, C, ⟨hK, hA, hC⟩, c0, c1, c2⟩ := hc k hlt
        have d0 := (RB.out.cell (p := ⟨b, off + k * 3, none⟩) hb).trans c0
        have d1 := (RB.out.cell (p := ⟨b, off + k * 3 + 1, none⟩) hb).trans c1
        have d2 := (RB.out.cell (p := ⟨b, off + k * 3 + 2, none⟩) hb).trans c2
        obtain ⟨K1, K2⟩ := hK
        have w0 := R1.out.c0
        have w1 := R1.out.c1
        have IA := Lib.hid hA
        have IC := Lib.hid hC
        have HSS := Lib.hid hs
        have HBB := Lib.hid hb
        clear c0 c1 c2 hc hA hC hs
        rw [HSS.out]
        have UC := Lib.hid (show U64 (IntKind.u64.wrap C) by rw [u64w]; unfold U64; omega)
        obtain ⟨q, hq⟩ : ∃ q, q = K % 6 := ⟨_, rfl⟩
        have hq5 : q = 0 ∨ q = 1 ∨ q = 2 ∨ q = 3 ∨ q = 4 ∨ q = 5 := by omega
        rcases hq5 with rfl | rfl | rfl | rfl | rfl | rfl
        · have t0 : (K % 6 == 0) = true := by rw [← hq]; rfl
          clear hq
          go_wp2_with fail
          go_still_tail 13, (by kernel_rfl)
          go_wp2_with fail
          refine (rplus_ac v A (IntKind.u64.wrap C) _ HV.out IA.out UC.out rfl _).mono ?_
          rintro e x1 ⟨rfl, hx⟩
          have RW := Lib.hid (wr_IsW (v + (A * 18446744073709551616 + IntKind.u64.wrap C)))
          have V0 := Lib.hid (WBlk.below (w := World.drew _) R0.out hx (Blk.lt R0.out))
          have V1 := Lib.hid (WBlk.below (w := World.drew _) R1.out hx (Blk.lt R1.out))
          have VB := Lib.hid (chain2 RB.out.drew hx)
          clear hx w0 w1
          have z0 := V1.out.c0
          have z1 := V1.out.c1
          have z2 := V1.out.z0
          have z3 := V1.out.z1
          go_wp2_with fail
          exact ⟨⟨k + 1, _, by omega, by omega, by simp, RW.out, V0.out.far2 (by omega) _, V1.out.set2 _, below_set2 VB.out (by omega) _⟩, by simp [intOf]; omega⟩
        · have t0 : (K % 6 == 0) = false := by rw [← hq]; rfl
          have t1 : (K % 6 == 1) = true := by rw [← hq]; rfl
          clear hq
          go_wp2_with fail
          go_still_tail 13, (by kernel_rfl)
          go_wp2_with fail
          refine (rminus_ac v A (IntKind.u64.wrap C) _ HV.out IA.out UC.out rfl _).mono ?_
          rintro e x1 ⟨rfl, hx⟩
          have RW := Lib.hid (wr_IsW (v - (A * 18446744073709551616 + IntKind.u64.wrap C)))
          have V0 := Lib.hid (WBlk.below (w := World.drew _) R0.out hx (Blk.lt R0.out))
          have V1 := Lib.hid (WBlk.below (w := World.drew _) R1.out hx (Blk.lt R1.out))
          have VB := Lib.hid (chain2 RB.out.drew hx)
          clear hx w0 w1
          have z0 := V1.out.c0
          have z1 := V1.out.c1
          have z2 := V1.out.z0
          have z3 := V1.out.z1
          go_wp2_with fail
          exact ⟨⟨k + 1, _, by omega, by omega, by simp, RW.out, V0.out.far2 (by omega) _, V1.out.set2 _, below_set2 VB.out (by omega) _⟩, by simp [intOf]; omega⟩
        · have t0 : (K % 6 == 0) = false := by rw [← hq]; rfl
          have t1 : (K % 6 == 1) = false := by rw [← hq]; rfl
          have t2 : (K % 6 == 2) = true := by rw [← hq]; rfl
          clear hq
          have RW := Lib.hid (wr_IsW (v + A * C))
          have IX := Lib.hid (IsW_mul IA.out IC.out)
          go_wp2_with fail
          go_region_with (first
            | (go_at_call 20
               refine (rtimes_any A C (A * C) IA.out IC.out rfl _).mono ?_
               rintro e x0 ⟨rfl, hx⟩
               have V0 := Lib.hid (WBlk.below (w := World.drew _) R0.out hx (Blk.lt R0.out))
               have V1 := Lib.hid (WBlk.below (w := World.drew _) R1.out hx (Blk.lt R1.out))
               have VB := Lib.hid (chain2 RB.out.drew hx)
               clear hx
               have y0 := V1.out.c0
               have y1 := V1.out.c1)
            | (go_at_call 29
               refine (rplus_any v (A * C) _ HV.out IX.out rfl _).mono ?_
               rintro e x1 ⟨rfl, hx⟩
               have U0 := Lib.hid (V0.out.below hx (Blk.lt V0.out))
               have U1 := Lib.hid (V1.out.below hx (Blk.lt V1.out))
               have UB := Lib.hid (chain2 VB.out hx)
               clear hx
               have z0 := U1.out.c0
               have z1 := U1.out.c1
               have z2 := U1.out.z0
               have z3 := U1.out.z1))
          all_goals
            go_wp2_with fail
            exact ⟨⟨k + 1, _, by omega, by omega, by simp, RW.out, U0.out.far2 (by omega) _, U1.out.set2 _, below_set2 UB.out (by omega) _⟩, by simp [intOf]; omega⟩
        · have t0 : (K % 6 == 0) = false := by rw [← hq]; rfl
          have t1 : (K % 6 == 1) = false := by rw [← hq]; rfl
          have t2 : (K % 6 == 2) = false := by rw [← hq]; rfl
          have t3 : (K % 6 == 3) = true := by rw [← hq]; rfl
          clear hq
          go_wp2_with fail
          refine (rof_any A IA.out _).mono ?_
          rintro e x1 ⟨rfl, hx⟩
          have RW := Lib.hid (IsW_of_I64 IA.out)
          have V0 := Lib.hid (WBlk.below R0.out hx (Blk.lt R0.out))
          have V1 := Lib.hid (WBlk.below R1.out hx (Blk.lt R1.out))
          have VB := Lib.hid (chain2 RB.out hx)
          clear hx w0 w1
          have z0 := V1.out.c0
          have z1 := V1.out.c1
          have z2 := V1.out.z0
          have z3 := V1.out.z1
          go_wp2_with fail
          exact ⟨⟨k + 1, _, by omega, by omega, by simp, RW.out, V0.out.far2 (by omega) _, V1.out.set2 _, below_set2 VB.out (by omega) _⟩, by simp [intOf]; omega⟩
        · have t0 : (K % 6 == 0) = false := by rw [← hq]; rfl
          have t1 : (K % 6 == 1) = false := by rw [← hq]; rfl
          have t2 : (K % 6 == 2) = false := by rw [← hq]; rfl
          have t3 : (K % 6 == 3) = false := by rw [← hq]; rfl
          have t4 : (K % 6 == 4) = true := by rw [← hq]; rfl
          clear hq
          go_wp2_with fail
          refine (rless_any v _ HV.out rfl _).mono ?_
          rintro e x1 ⟨rfl, hx⟩
          have RW := Lib.hid (wr_IsW (-v))
          have V0 := Lib.hid (WBlk.below R0.out hx (Blk.lt R0.out))
          have V1 := Lib.hid (WBlk.below R1.out hx (Blk.lt R1.out))
          have VB := Lib.hid (chain2 RB.out hx)
          clear hx w0 w1
          have z0 := V1.out.c0
          have z1 := V1.out.c1
          have z2 := V1.out.z0
          have z3 := V1.out.z1
          go_wp2_with fail
          exact ⟨⟨k + 1, _, by omega, by omega, by simp, RW.out, V0.out.far2 (by omega) _, V1.out.set2 _, below_set2 VB.out (by omega) _⟩, by simp [intOf]; omega⟩
        · have t0 : (K % 6 == 0) = false := by rw [← hq]; rfl
          have t1 : (K % 6 == 1) = false := by rw [← hq]; rfl
          have t2 : (K % 6 == 2) = false := by rw [← hq]; rfl
          have t3 : (K % 6 == 3) = false := by rw [← hq]; rfl
          have t4 : (K % 6 == 4) = false := by rw [← hq]; rfl
          clear hq
          go_wp2_with fail
          refine (rtwice_any v _ HV.out rfl _).mono ?_
          rintro e x1 ⟨rfl, hx⟩
          have RW := Lib.hid (wr_IsW (v + v))
          have V0 := Lib.hid (WBlk.below R0.out hx (Blk.lt R0.out))
          have V1 := Lib.hid (WBlk.below R1.out hx (Blk.lt R1.out))
          have VB := Lib.hid (chain2 RB.out hx)
          clear hx w0 w1
          have z0 := V1.out.c0
          have z1 := V1.out.c1
          have z2 := V1.out.z0
          have z3 := V1.out.z1
          go_wp2_with fail
          exact ⟨⟨k + 1, _, by omega, by omega, by simp, RW.out, V0.out.far2 (by omega) _, V1.out.set2 _, below_set2 VB.out (by omega) _⟩, by simp [intOf]; omega⟩
      · obtain rfl : k = 40 := by omega
        rw [show ((40 : Nat) : Int) = 40 from rfl]
        have w0 := R1.out.c0
        have w1 := R1.out.c1
        have z0 := R0.out.c0
        have z1 := R0.out.c1
        have z2 := R0.out.z0
        have z3 := R0.out.z1
        have T := Lib.hid (told_cell R0.out v)
        go_wp2_with fail
        refine bodyPost_ret (v := Wd v) (by simp [results, Try.results12, go_sem, T.out.1, T.out.2]) rfl ⟨v, HV.out, rfl, below_set2 RB.out (Nat.le_refl _) _⟩
    · obtain rfl : k = l := by omega
      have w0 := R1.out.c0
      have w1 := R1.out.c1
      have z0 := R0.out.c0
      have z1 := R0.out.c1
      have z2 := R0.out.z0
      have z3 := R0.out.z1
      have T := Lib.hid (told_cell R0.out v)
      go_wp2_with fail
      refine bodyPost_ret (v := Wd v) (by simp [results, Try.results12, go_sem, T.out.1, T.out.2]) rfl ⟨v, HV.out, rfl, below_set2 RB.out (Nat.le_refl _) _⟩
end Go.Proofs.Ytinejcoajebdjaa

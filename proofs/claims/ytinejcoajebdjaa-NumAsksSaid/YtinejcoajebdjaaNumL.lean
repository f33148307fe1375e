/- The contract of num.Sum; the walk of NumSums. -/
import Derived.Test.YtinejcoajebdjaaNumK
namespace Go.Proofs.Ytinejcoajebdjaa
open Go.RowKit

/-- The sum of all. -/
def sumZ : List Int → Int
  | [] => 0
  | x :: r => x + sumZ r
theorem sumZ_append (a b : List Int) : sumZ (a ++ b) = sumZ a + sumZ b := by
  induction a with
  | nil => simp [sumZ]
  | cons x r ih => simp only [List.cons_append, sumZ, ih]; omega
theorem sumZ_reverse (a : List Int) : sumZ a.reverse = sumZ a := by
  induction a with
  | nil => rfl
  | cons x r ih => rw [List.reverse_cons, sumZ_append, ih]; simp only [sumZ]; omega

/-- A []int64 that lies in memory below block B: nil, or a row; its first numbers are xs. -/
def Ints (w : World) (B : Nat) (a : Option Addr) (xs : List Int) : Prop :=
  0 < xs.length → ∃ b off, a = some ⟨b, off, none⟩ ∧ b < B ∧ ∀ i, i < xs.length → w.cell? ⟨b, off + i, none⟩ = some (.int .i64 (xs.getD i 0))
def AllI64 (xs : List Int) : Prop := ∀ n ∈ xs, I64 n

/-- What holds at the head of Sum's loop. -/
def SumRel (w : World) (xs : List Int) (s : Value) (v : World) : Prop :=
  ∃ k : Nat, k ≤ xs.length ∧ s = .int .i64 (k : Int) ∧ Blk v w.heap.size 24 #[.int .i64 0, .int .u64 0] ∧ WBlk v (w.heap.size + 1) (wr (sumZ (xs.take k))) ∧ Below w.heap.size w v

theorem wr_wr_add (a b : Int) : wr (wr a + b) = wr (a + b) := by unfold wr; omega
theorem sum_take (xs : List Int) (k : Nat) (h : k < xs.length) : sumZ (xs.take (k + 1)) = sumZ (xs.take k) + xs.getD k 0 := by
  rw [List.take_succ_eq_append_getElem h, sumZ_append]
  simp [sumZ, List.getD, List.getElem?_eq_getElem h]
theorem all_getD {xs : List Int} (h : AllI64 xs) (k : Nat) (hk : k < xs.length) : I64 (xs.getD k 0) := by
  have e : xs.getD k 0 = xs[k] := by simp [List.getD, List.getElem?_eq_getElem hk]
  rw [e]
  exact h _ (List.getElem_mem hk)

theorem sum_step (xs : List Int) (k : Nat) (h : k < xs.length) : wr (wr (sumZ (xs.take k)) + xs.getD k 0) = wr (sumZ (xs.take (k + 1))) := by
  rw [wr_wr_add, sum_take xs k h]

theorem cell_set0 {w : World} {g : Nat} {n : Int} (h : WBlk w g n) (v : Value) : (w.setCell ⟨g, 0, none⟩ v).cell? ⟨g, 0, none⟩ = some v := by
  rw [Blk.cell (Blk.set_ h 0 v) 0]
  rfl
abbrev rnd (n : Int) : Int := wr n

theorem sum_none (a : Option Addr) (cap : Nat) (w : World) :
    Calls Try.prog 15 #[.slice a 0 cap] w fun e w' => e = .returned (Wd 0) ∧ Below w.heap.size w w' := by
  have e0 := hi0
  have e1 := lo0
  go_enter Try.func15, Try.ntmps15
  go_wp2_with fail
  refine wp_loop_rounds 1 ?_
  rw [rounds_succ]
  go_wp2_with fail
  refine bodyPost_ret (v := Wd 0) (by simp [results, Try.results15, go_sem, e0, e1]) rfl ⟨rfl, ?_⟩
  exact ((Below.refl _ _).alloc (Nat.le_refl _) _).alloc (by simp) _

set_option maxHeartbeats 1000000 in
theorem sum_some (b off cap : Nat) (xs : List Int) (w : World) (h0 : 0 < xs.length) (hm : xs.length ≤ 140737488355328) (hx : AllI64 xs) (hb : b < w.heap.size)
    (hc : ∀ i, i < xs.length → w.cell? ⟨b, off + i, none⟩ = some (.int .i64 (xs.getD i 0))) :
    Calls Try.prog 15 #[.slice (some ⟨b, off, none⟩) xs.length cap] w fun e w' => e = .returned (Wd (wr (sumZ xs))) ∧ Below w.heap.size w w' := by
  have HC := Lib.hid hc
  have HX := Lib.hid hx
  clear hc hx
  go_enter Try.func15, Try.ntmps15
  go_wp2_with fail
  go_loopw [8] (fun s v => SumRel w xs s v) (fun i _ => xs.length - (intOf i).toNat)
  case atStart =>
    refine ⟨0, by omega, rfl, ?_, ?_, ?_⟩
    · exact (Blk.new w _ _).alloc _
    · have := Blk.new (w.alloc (.cells #[.int .i64 0, .int .u64 0] 24)) 24 #[.int .i64 0, .int .u64 0]
      simpa [WBlk, sumZ, show wr 0 = 0 from by decide, hi0, lo0] using this
    · exact ((Below.refl _ _).alloc (Nat.le_refl _) _).alloc (by simp) _
  case round =>
    obtain ⟨k, hk, rfl, r0, r1, rB⟩ := hrel
    have R0 := Lib.hid r0
    have R1 := Lib.hid r1
    have RB := Lib.hid rB
    clear r0 r1 rB
    by_cases hlt : k < xs.length
    · have hcell := (RB.out.cell (p := ⟨b, off + k, none⟩) hb).trans (HC.out k hlt)
      have S := sum_step xs k hlt
      have hx := all_getD HX.out k hlt
      generalize xs.getD k 0 = x at *
      have HS := Lib.hid S
      have HXK := Lib.hid hx
      clear S hx
      have c0 := R1.out.c0
      have c1 := R1.out.c1
      go_wp2_with fail
      go_region_with (first
        | (go_at_call 17
           refine (of_any x HXK.out _).mono ?_
           rintro e w1 ⟨rfl, h1⟩
           have A1 := Lib.hid (WBlk.below (w := World.drew _) R1.out h1 (Blk.lt R1.out))
           have A0 := Lib.hid (Blk.below (w := World.drew _) R0.out h1 (Blk.lt R0.out))
           have AB := Lib.hid (chain2 RB.out.drew h1)
           clear h1
           have d0 := A1.out.c0
           have d1 := A1.out.c1)
        | (go_at_call 23
           refine (plus_any _ x _ (wr_IsW _) (IsW_of_I64 HXK.out) HS.out _).mono ?_
           rintro e w2 ⟨rfl, h2⟩
           have B1 := Lib.hid (A1.out.below h2 (Blk.lt A1.out))
           have B0 := Lib.hid (Blk.below A0.out h2 (Blk.lt A0.out))
           have BB := Lib.hid (chain2 AB.out h2)
           clear h2
           have f0 := B1.out.c0
           have f1 := B1.out.c1
           have g0 := B1.out.z0
           have g1 := B1.out.z1))
      all_goals
        go_wp2_with fail
        exact ⟨⟨k + 1, by omega, by simp, Blk.far (Blk.far B0.out (p := ⟨w.heap.size + 1, 0, none⟩) (by simp) _) (p := ⟨w.heap.size + 1, 1, none⟩) (by simp) _, B1.out.set2 _, below_set2 BB.out (by omega) _⟩, by simp [intOf]; omega⟩
    · obtain rfl : k = xs.length := by omega
      have S := List.take_length (l := xs)
      have R2 := R1.out
      rw [S] at R2
      have c0 := R2.c0
      have c1 := R2.c1
      have z0 := Blk.cell R0.out 0
      have z1 := Blk.cell R0.out 1
      have y0 := Blk.frozen R0.out 0
      have y1 := Blk.frozen R0.out 1
      have HR0 := Lib.hid (Blk.lt R0.out)
      clear S R2
      go_wp2_with fail
      have F := (show WBlk _ w.heap.size 0 from R0.out).set2 (rnd (sumZ xs))
      have F1 := F.c1
      have G0 := cell_set0 (show WBlk _ w.heap.size 0 from R0.out) (.int .i64 (hi (rnd (sumZ xs))))
      refine bodyPost_ret (v := Wd (rnd (sumZ xs))) (by simp [results, Try.results15, go_sem, G0, F1]) rfl ⟨rfl, below_set2 RB.out (Nat.le_refl _) _⟩

theorem sum_any (a : Option Addr) (cap : Nat) (xs : List Int) (r : Int) (w : World) (hm : xs.length ≤ 140737488355328) (hx : AllI64 xs) (hI : Ints w w.heap.size a xs) (hr : wr (sumZ xs) = r) :
    Calls Try.prog 15 #[.slice a xs.length cap] w fun e w' => e = .returned (Wd r) ∧ Below w.heap.size w w' := by
  subst hr
  by_cases h : 0 < xs.length
  · obtain ⟨b, off, rfl, hb, hc⟩ := hI h
    exact sum_some b off cap xs w h hm hx hb hc
  · obtain rfl : xs = [] := List.eq_nil_of_length_eq_zero (by omega)
    exact sum_none a cap w
end Go.Proofs.Ytinejcoajebdjaa

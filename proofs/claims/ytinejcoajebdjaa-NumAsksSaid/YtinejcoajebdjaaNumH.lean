/- The walks of NumTimes, NumOrder, NumBack. -/
import Derived.Test.YtinejcoajebdjaaNumF
import Derived.Test.YtinejcoajebdjaaNumO
namespace Go.Proofs.Ytinejcoajebdjaa
open Go.RowKit

theorem hi0 : hi 0 = 0 := by decide
theorem lo0 : lo 0 = 0 := by decide
theorem IsW_mul {a b : Int} (ha : I64 a) (hb : I64 b) : IsW (a * b) := by have := mul_bound a b ha hb; unfold IsW; omega
theorem I64_32 {b : Int} (h : I32 b) : I64 b := by obtain ⟨_, _⟩ := h; unfold I64; omega
theorem I64_sum {b c : Int} (h : I32 b) (k : I32 c) : I64 (b + c) := by obtain ⟨_, _⟩ := h; obtain ⟨_, _⟩ := k; unfold I64; omega
theorem wr_dist (a b c : Int) (ha : I64 a) (hb : I32 b) (hc : I32 c) : wr (a * b + a * c) = a * b + a * c := by
  rw [← Int.mul_add]
  exact wr_of (IsW_mul ha (I64_sum hb hc))
theorem wr_neg64 (n : Int) (h : I64 n) : wr (-n) = -n := by obtain ⟨_, _⟩ := h; unfold wr; omega
theorem mul_neg_one' (n : Int) : n * -1 = -n := by omega

theorem times_walk (a : Int) (ha : I64 a) (b : Int) (hb : I32 b) (c : Int) (hc : I32 c) (n : Int) (hn : I64 n) (w : World) :
    Calls Try.prog 5 #[.int .i64 a, .int .i32 b, .int .i32 c, .int .i64 n] w fun e w' => e = .returned (.bool true) ∧ Below w.heap.size w w' := by
  have HA := Lib.hid ha
  have HB := Lib.hid hb
  have HC := Lib.hid hc
  have HN := Lib.hid hn
  have e0 := hi0
  have e1 := lo0
  obtain ⟨b1, b2⟩ := hb
  obtain ⟨c1, c2⟩ := hc
  clear ha hn
  go_enter Try.func5, Try.ntmps5
  go_wp2_with fail
  refine (known_any _).mono ?_
  rintro e w1 ⟨rfl, h1⟩
  go_wp2_with fail
  refine (times_any a (b + c) (a * b + a * c) HA.out (I64_sum HB.out HC.out) (Int.mul_add _ _ _) _).mono ?_
  rintro e w2 ⟨rfl, h2⟩
  go_wp2_with fail
  refine (times_any a b (a * b) HA.out (I64_32 HB.out) rfl _).mono ?_
  rintro e w3 ⟨rfl, h3⟩
  go_wp2_with fail
  refine (times_any a c (a * c) HA.out (I64_32 HC.out) rfl _).mono ?_
  rintro e w4 ⟨rfl, h4⟩
  go_wp2_with fail
  refine (plus_any (a * b) (a * c) (a * b + a * c) (IsW_mul HA.out (I64_32 HB.out)) (IsW_mul HA.out (I64_32 HC.out)) (wr_dist a b c HA.out HB.out HC.out) _).mono ?_
  rintro e w5 ⟨rfl, h5⟩
  go_wp2_with fail
  refine (times_any a n (a * n) HA.out HN.out rfl _).mono ?_
  rintro e w6 ⟨rfl, h6⟩
  go_wp2_with fail
  refine (times_any n a (a * n) HN.out HA.out (Int.mul_comm _ _) _).mono ?_
  rintro e w7 ⟨rfl, h7⟩
  go_wp2_with fail
  refine (times_any n 1 n HN.out (by unfold I64; omega) (Int.mul_one _) _).mono ?_
  rintro e w8 ⟨rfl, h8⟩
  go_wp2_with fail
  refine (of_any n HN.out _).mono ?_
  rintro e w9 ⟨rfl, h9⟩
  go_wp2_with fail
  refine (times_any n 0 0 HN.out (by unfold I64; omega) (Int.mul_zero _) _).mono ?_
  rintro e w10 ⟨rfl, h10⟩
  go_wp2_with fail
  refine (times_any n (-1) (-n) HN.out (by unfold I64; omega) (mul_neg_one' _) _).mono ?_
  rintro e w11 ⟨rfl, h11⟩
  go_wp2_with fail
  refine (of_any n HN.out _).mono ?_
  rintro e w12 ⟨rfl, h12⟩
  go_wp2_with fail
  refine (minus0 n (-n) (IsW_of_I64 HN.out) (wr_neg64 n HN.out) _).mono ?_
  rintro e w13 ⟨rfl, h13⟩
  go_wp2_with fail
  go_ret
  exact ⟨rfl, chain2 (chain2 (chain2 (chain2 (chain2 (chain2 (chain2 (chain2 (chain2 (chain2 (chain2 (chain2 h1 h2) h3) h4) h5) h6) h7) h8) h9) h10) h11) h12) h13⟩
end Go.Proofs.Ytinejcoajebdjaa

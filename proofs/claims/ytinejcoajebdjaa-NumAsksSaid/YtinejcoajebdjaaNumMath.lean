/- Plain arithmetic of two-word numbers: NUMBER = hi times 2^64, and lo. No program in sight. -/
import Derived.WalkKit
namespace Go.Proofs.Ytinejcoajebdjaa
/-- The upper word of a number. -/
def hi (n : Int) : Int := n / 18446744073709551616
/-- The lower word. -/
def lo (n : Int) : Int := n % 18446744073709551616
/-- Round the ring of 2^128 numbers, into -2^127 .. 2^127 - 1. -/
def wr (n : Int) : Int := (n + 170141183460469231731687303715884105728) % 340282366920938463463374607431768211456 - 170141183460469231731687303715884105728
/-- A number of 128 bits with a sign. -/
def IsW (n : Int) : Prop := -170141183460469231731687303715884105728 ≤ n ∧ n < 170141183460469231731687303715884105728
/-- A number of 64 bits with a sign. -/
def I64 (n : Int) : Prop := -9223372036854775808 ≤ n ∧ n < 9223372036854775808
/-- A word. -/
def U64 (n : Int) : Prop := 0 ≤ n ∧ n < 18446744073709551616

theorem hi_I64 {n : Int} (h : IsW n) : I64 (hi n) := by obtain ⟨a, b⟩ := h; unfold I64 hi; omega
theorem lo_U64 (n : Int) : U64 (lo n) := by unfold U64 lo; omega
theorem wr_IsW (n : Int) : IsW (wr n) := by unfold IsW wr; omega
theorem wr_of {n : Int} (h : IsW n) : wr n = n := by obtain ⟨a, b⟩ := h; unfold wr; omega
theorem IsW_of_I64 {n : Int} (h : I64 n) : IsW n := by obtain ⟨a, b⟩ := h; unfold IsW; omega
theorem hl (n : Int) : hi n * 18446744073709551616 + lo n = n := by unfold hi lo; omega
theorem hi_of (h l : Int) (k : U64 l) : hi (h * 18446744073709551616 + l) = h := by obtain ⟨a, b⟩ := k; unfold hi; omega
theorem lo_of (h l : Int) (k : U64 l) : lo (h * 18446744073709551616 + l) = l := by obtain ⟨a, b⟩ := k; unfold lo; omega
theorem IsW_of (h l : Int) (j : I64 h) (k : U64 l) : IsW (h * 18446744073709551616 + l) := by
  obtain ⟨a, b⟩ := j; obtain ⟨c, d⟩ := k; unfold IsW; omega
end Go.Proofs.Ytinejcoajebdjaa

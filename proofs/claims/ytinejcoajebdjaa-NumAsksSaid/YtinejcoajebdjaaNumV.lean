/- The document's tenth part, bit by bit; its text. -/
import Derived.Test.YtinejcoajebdjaaNumU
namespace Go.Proofs.Ytinejcoajebdjaa
open Go.RowKit

/-- What holds at the head of tenth's loop: k bits are still to come. -/
def TenthRel (N : Int) (s7 s8 s9 s10 : Value) : Prop :=
  ∃ k : Nat, k ≤ 128 ∧ s7 = .int .u64 (hi (N / 2 ^ k / 10)) ∧ s8 = .int .u64 (lo (N / 2 ^ k / 10)) ∧ s9 = .int .i64 (N / 2 ^ k % 10) ∧ s10 = .int .i64 ((k : Int) - 1)

theorem or_bit (x y : Int) (h0 : 0 ≤ x) (h1 : x < 9223372036854775808) (h2 : 0 ≤ y) (h3 : y < 2) : bits .or .u64 (x * 2) y = x * 2 + y := by
  rw [u64_or _ _ (by omega) (by omega) h2 (by omega), nat_join 1 _ _ (by omega) (by omega)]
  omega
theorem or_one (x : Int) : bits .or .u64 (IntKind.u64.wrap (x * 2)) 1 = (x * 2) % 18446744073709551616 + 1 := by
  rw [u64w]
  have e : x * 2 % 18446744073709551616 = (x % 9223372036854775808) * 2 := by omega
  rw [e]
  exact or_bit _ 1 (by omega) (by omega) (by omega) (by omega)
theorem pow2_pos (k : Nat) : (0 : Int) < 2 ^ k := Int.pow_pos (by decide)
theorem half_div (N : Int) (i : Nat) : N / 2 ^ i / 2 = N / 2 ^ (i + 1) := by
  rw [Int.pow_succ, Int.ediv_ediv_of_nonneg]
  exact Int.le_of_lt (pow2_pos i)
theorem bd_div (N : Int) (i : Nat) (h0 : 0 ≤ N) (h1 : N < 340282366920938463463374607431768211456) : 0 ≤ N / 2 ^ i ∧ N / 2 ^ i < 340282366920938463463374607431768211456 := by
  have p := pow2_pos i
  exact ⟨Int.ediv_nonneg h0 (by omega), Int.lt_of_le_of_lt (Int.ediv_le_self _ h0) h1⟩
theorem bit_hi (N : Int) (i : Nat) (h0 : 0 ≤ N) (h : 64 ≤ i) : (hi N / 2 ^ (i - 64)).tmod 2 = N / 2 ^ i % 2 := by
  obtain ⟨j, rfl⟩ : ∃ j, i = 64 + j := ⟨i - 64, by omega⟩
  have e : hi N / 2 ^ (64 + j - 64) = N / 2 ^ (64 + j) := by
    rw [show 64 + j - 64 = j by omega, Int.pow_add, ← Int.ediv_ediv_of_nonneg (by decide)]
    rfl
  have p := pow2_pos (64 + j)
  rw [e, Int.tmod_eq_emod_of_nonneg (Int.ediv_nonneg h0 (by omega))]
theorem bit_lo (N : Int) (i : Nat) (h : i < 64) : (lo N / 2 ^ (i % 64)).tmod 2 = N / 2 ^ i % 2 := by
  rw [Nat.mod_eq_of_lt h]
  have p := pow2_pos i
  have hl0 := (lo_U64 N).1
  rw [Int.tmod_eq_emod_of_nonneg (Int.ediv_nonneg hl0 (by omega))]
  have e : (18446744073709551616 : Int) = 2 ^ i * (2 * 2 ^ (63 - i)) := by
    rw [← Int.mul_assoc, ← Int.pow_succ, ← Int.pow_add, show i + 1 + (63 - i) = 64 by omega]
    decide
  have e2 : N = lo N + 2 ^ i * (2 * 2 ^ (63 - i) * hi N) := by
    have := hl N
    rw [← Int.mul_assoc, ← e]
    omega
  have e3 : N / 2 ^ i = lo N / 2 ^ i + 2 * 2 ^ (63 - i) * hi N := by
    conv => lhs; rw [e2]
    rw [Int.add_mul_ediv_left _ _ (by omega)]
  rw [e3, Int.mul_assoc]
  omega

theorem tenth_ge (p p' : Int) (hp : p' / 2 = p) (h0 : 0 ≤ p') (h1 : p' < 340282366920938463463374607431768211456) (h : 10 ≤ wrap64 (2 * (p % 10) + wrap64 (p' % 2))) :
    bits .or .u64 (IntKind.u64.wrap (hi (p / 10) * 2)) (lo (p / 10) / 9223372036854775808) = hi (p' / 10) ∧ bits .or .u64 (IntKind.u64.wrap (lo (p / 10) * 2)) 1 = lo (p' / 10) ∧ wrap64 (wrap64 (2 * (p % 10) + wrap64 (p' % 2)) - 10) = p' % 10 := by
  have e : wrap64 (2 * (p % 10) + wrap64 (p' % 2)) = 2 * (p % 10) + p' % 2 := by unfold wrap64; omega
  rw [e] at h ⊢
  have e1 : IntKind.u64.wrap (hi (p / 10) * 2) = hi (p / 10) * 2 := by rw [u64w]; unfold hi; omega
  rw [e1, or_bit _ _ (by unfold hi; omega) (by unfold hi; omega) (by unfold lo; omega) (by unfold lo; omega), or_one]
  refine ⟨?_, ?_, ?_⟩
  · unfold hi lo; omega
  · unfold lo; omega
  · unfold wrap64; omega
theorem tenth_lt (p p' : Int) (hp : p' / 2 = p) (h0 : 0 ≤ p') (h1 : p' < 340282366920938463463374607431768211456) (h : wrap64 (2 * (p % 10) + wrap64 (p' % 2)) < 10) :
    bits .or .u64 (IntKind.u64.wrap (hi (p / 10) * 2)) (lo (p / 10) / 9223372036854775808) = hi (p' / 10) ∧ IntKind.u64.wrap (lo (p / 10) * 2) = lo (p' / 10) ∧ wrap64 (2 * (p % 10) + wrap64 (p' % 2)) = p' % 10 := by
  have e : wrap64 (2 * (p % 10) + wrap64 (p' % 2)) = 2 * (p % 10) + p' % 2 := by unfold wrap64; omega
  rw [e] at h ⊢
  have e1 : IntKind.u64.wrap (hi (p / 10) * 2) = hi (p / 10) * 2 := by rw [u64w]; unfold hi; omega
  rw [e1, or_bit _ _ (by unfold hi; omega) (by unfold hi; omega) (by unfold lo; omega) (by unfold lo; omega), u64w]
  refine ⟨?_, ?_, ?_⟩
  · unfold hi lo; omega
  · unfold lo; omega
  · omega
theorem tenth_rel {N a b c : Int} {i : Nat} (hi_ : i ≤ 128) (h1 : a = hi (N / 2 ^ i / 10)) (h2 : b = lo (N / 2 ^ i / 10)) (h3 : c = N / 2 ^ i % 10) : TenthRel N (.int .u64 a) (.int .u64 b) (.int .i64 c) (.int .i64 ((i : Int) - 1)) := by
  subst h1 h2 h3; exact ⟨i, hi_, rfl, rfl, rfl, rfl⟩

set_option maxRecDepth 100000 in
set_option maxHeartbeats 4000000 in
theorem rtenth_any (N : Int) (h0 : 0 ≤ N) (h1 : N < 340282366920938463463374607431768211456) (w : World) :
    Calls Try.prog 49 #[.int .u64 (hi N), .int .u64 (lo N)] w fun e w' => e = .returned (.tuple #[.int .u64 (hi (N / 10)), .int .u64 (lo (N / 10)), .int .i64 (N % 10)]) ∧ w = w' := by
  have HN := Lib.hid (And.intro h0 h1)
  clear h0 h1
  go_enter Try.func49, Try.ntmps49
  go_wp2_with fail
  go_loop [7, 8, 9, 10] (fun s7 s8 s9 s10 => TenthRel N s7 s8 s9 s10) (fun _ _ _ i => (intOf i + 1).toNat)
  case atStart =>
    have e : N / 2 ^ 128 = 0 := Int.ediv_eq_zero_of_lt HN.out.1 (by have := HN.out.2; have q : (2 : Int) ^ 128 = 340282366920938463463374607431768211456 := by decide
                                                                    omega)
    exact ⟨128, by omega, by rw [e]; rfl, by rw [e]; rfl, by rw [e]; rfl, by simp⟩
  case round =>
    obtain ⟨k, hk, rfl, rfl, rfl, rfl⟩ := hrel
    rcases k with _ | i
    · have e : N / 2 ^ 0 = N := by simp
      rw [e]
      clear e
      go_wp2_with fail
      go_ret3
      exact ⟨rfl, rfl⟩
    · rw [show (((i + 1 : Nat) : Int) - 1) = (i : Int) by omega]
      have B := Lib.hid (bd_div N i HN.out.1 HN.out.2)
      by_cases hi64 : i < 64
      · have BT := Lib.hid (bit_lo N i hi64)
        go_wp2_with fail
        · rename_i hg
          rw [BT.out] at hg
          have R := tenth_ge _ _ (half_div N i) B.out.1 B.out.2 hg
          rw [BT.out]
          exact ⟨tenth_rel (by omega) R.1 R.2.1 R.2.2, by simp [intOf]⟩
        · rename_i hg
          rw [BT.out] at hg
          have R := tenth_lt _ _ (half_div N i) B.out.1 B.out.2 hg
          rw [BT.out]
          exact ⟨tenth_rel (by omega) R.1 R.2.1 R.2.2, by simp [intOf]⟩
      · have BT := Lib.hid (bit_hi N i HN.out.1 (by omega))
        go_wp2_with fail
        · rename_i hg
          rw [BT.out] at hg
          have R := tenth_ge _ _ (half_div N i) B.out.1 B.out.2 hg
          rw [BT.out]
          exact ⟨tenth_rel (by omega) R.1 R.2.1 R.2.2, by simp [intOf]⟩
        · rename_i hg
          rw [BT.out] at hg
          have R := tenth_lt _ _ (half_div N i) B.out.1 B.out.2 hg
          rw [BT.out]
          exact ⟨tenth_rel (by omega) R.1 R.2.1 R.2.2, by simp [intOf]⟩
end Go.Proofs.Ytinejcoajebdjaa

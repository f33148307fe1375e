/- Contracts: math/bits.Div64 by ten; num.tenth. -/
import Derived.Test.YtinejcoajebdjaaNumC
import Derived.Laws.BitsAllLaws
import Derived.WalkSmall
namespace Go.Proofs.Ytinejcoajebdjaa
open Go.RowKit

set_option maxRecDepth 100000 in
theorem len10 (w : World) : Calls Try.prog 55 #[.int .u64 10] w fun e w' => e = .returned (.int .i64 4) ∧ w = w' := by
  go_enter Try.func55, Try.ntmps55
  go_wp2
  go_ret
  exact ⟨by kernel_rfl, rfl⟩
theorem lz10 (w : World) : Calls Try.prog 54 #[.int .u64 10] w fun e w' => e = .returned (.int .i64 60) ∧ w = w' := by
  go_enter Try.func54, Try.ntmps54
  go_wp2_with fail
  refine (len10 _).mono ?_
  rintro e w' ⟨rfl, rfl⟩
  go_wp2_with fail
  go_ret
  exact ⟨rfl, rfl⟩

theorem div10_0 (l : Int) (h0 : 0 ≤ l) (h1 : l < 18446744073709551616) (w : World) :
    Calls Try.prog 53 #[.int .u64 0, .int .u64 l, .int .u64 10] w fun e w' => e = .returned (.tuple #[.int .u64 (l / 10), .int .u64 (l % 10)]) ∧ Below w.heap.size w w' := by
  go_enter Try.func53, Try.ntmps53
  go_wp2_with fail
  go_quiet (fail)
  go_wp2_with fail
  go_ret2
  exact ⟨rfl, below_drewN (Below.refl _ _) _⟩

theorem or_join (x y : Int) (h0 : 0 ≤ x) (h1 : x < 10) (h2 : 0 ≤ y) (h3 : y < 1152921504606846976) : bits .or .u64 (x * 1152921504606846976) y = x * 1152921504606846976 + y := by
  rw [u64_or _ _ (by omega) (by omega) h2 (by omega), nat_join 60 _ _ (by omega) (by omega)]
  omega
theorem and_low (x : Int) (h0 : 0 ≤ x) (h1 : x < 18446744073709551616) : bits .and .u64 x 4294967295 = x % 4294967296 := by
  rw [u64_and _ _ h0 h1 (by omega) (by omega)]
  have e := Nat.and_two_pow_sub_one_eq_mod x.toNat 32
  have e' : (4294967295 : Int).toNat = 2 ^ 32 - 1 := by decide
  rw [e', e]
  omega
theorem u64w (n : Int) : IntKind.u64.wrap n = n % 18446744073709551616 := IntKind.wrap_u64 n

theorem div_q (h l U V X : Int) (hU : U = h * 1152921504606846976 + l / 16) (hV : V = (l * 1152921504606846976) % 18446744073709551616) (hX : X = U % 2684354560 * 4294967296 + V / 4294967296) :
    U / 2684354560 * 4294967296 + X / 2684354560 = (h * 18446744073709551616 + l) / 10 ∧
    X % 2684354560 * 4294967296 + V % 4294967296 = (h * 18446744073709551616 + l) % 10 * 1152921504606846976 := by
  have e1 : V = l % 16 * 1152921504606846976 := by omega
  have e2 : U * 18446744073709551616 + V = (h * 18446744073709551616 + l) * 1152921504606846976 := by omega
  generalize (h * 18446744073709551616 + l) = N at *
  clear hU hV e1
  have e3 : (U / 2684354560 * 4294967296 + X / 2684354560) * 11529215046068469760 + (X % 2684354560 * 4294967296 + V % 4294967296) = N * 1152921504606846976 := by omega
  have e4 : 0 ≤ X % 2684354560 * 4294967296 + V % 4294967296 ∧ X % 2684354560 * 4294967296 + V % 4294967296 < 11529215046068469760 := by omega
  generalize U / 2684354560 * 4294967296 + X / 2684354560 = q at *
  generalize X % 2684354560 * 4294967296 + V % 4294967296 = r at *
  clear hX e2
  omega

theorem ret_two {a b c d : Int} (h : a = b) (k : c = d) : Ending.returned (.tuple #[.int .u64 a, .int .u64 c]) = .returned (.tuple #[.int .u64 b, .int .u64 d]) := by rw [h, k]
theorem div_last (N q1 X V : Int) (h1 : q1 + X / 2684354560 = N / 10) (h2 : X % 2684354560 * 4294967296 + V % 4294967296 = N % 10 * 1152921504606846976) :
    q1 + X / 2684354560 = N / 10 ∧ IntKind.u64.wrap (IntKind.u64.wrap (IntKind.u64.wrap (X * 4294967296) + V % 4294967296) - IntKind.u64.wrap (X / 2684354560 * 11529215046068469760)) / 1152921504606846976 = N % 10 := by
  refine ⟨h1, ?_⟩
  rw [u64w, u64w, u64w, u64w]
  omega

theorem div10_1 (h l : Int) (a0 : 0 < h) (a1 : h < 10) (h0 : 0 ≤ l) (h1 : l < 18446744073709551616) (w : World) :
    Calls Try.prog 53 #[.int .u64 h, .int .u64 l, .int .u64 10] w fun e w' => e = .returned (.tuple #[.int .u64 ((h * 18446744073709551616 + l) / 10), .int .u64 ((h * 18446744073709551616 + l) % 10)]) ∧ Below w.heap.size w w' := by
  have z : (h == 0) = false := by simp; omega
  obtain ⟨U, hU⟩ : ∃ U, U = h * 1152921504606846976 + l / 16 := ⟨_, rfl⟩
  obtain ⟨V, hV⟩ : ∃ V, V = (l * 1152921504606846976) % 18446744073709551616 := ⟨_, rfl⟩
  obtain ⟨X, hX⟩ : ∃ X, X = U % 2684354560 * 4294967296 + V / 4294967296 := ⟨_, rfl⟩
  have bU0 : 0 ≤ U := by omega
  have bU1 : U < 11529215046068469760 := by omega
  have bV0 : 0 ≤ V := by omega
  have bV1 : V < 18446744073709551616 := by omega
  have bX0 : 0 ≤ X := by omega
  have bX1 : X < 11529215046068469760 := by omega
  have D := Lib.hid (div_q h l U V X hU hV hX)
  have e1 : bits .or .u64 (h * 1152921504606846976) (l / 16) = U := by rw [hU]; exact or_join _ _ (by omega) a1 (by omega) (by omega)
  have e2 : IntKind.u64.wrap (l * 1152921504606846976) = V := by rw [hV]; exact u64w _
  have e3 : bits .and .u64 11529215046068469760 4294967295 = 0 := and_low _ (by omega) (by omega)
  have e4 := and_low V bV0 bV1
  have e5 : IntKind.u64.wrap (IntKind.u64.wrap (IntKind.u64.wrap (U * 4294967296) + V / 4294967296) - IntKind.u64.wrap (U / 2684354560 * 11529215046068469760)) = X := by
    rw [u64w, u64w, u64w, u64w]; omega
  clear hU hV hX
  go_enter Try.func53, Try.ntmps53
  go_wp2_with fail
  refine (lz10 _).mono ?_
  rintro e w' ⟨rfl, rfl⟩
  go_wp2_with fail
  refine wp_loop_rounds 1 ?_
  rw [rounds_succ]
  go_wp2_with fail
  refine wp_loop_rounds 1 ?_
  rw [rounds_succ]
  go_wp2_with fail
  go_ret2
  exact ⟨by exact ret_two (div_last _ _ X V D.out.1 D.out.2).1 (div_last _ _ X V D.out.1 D.out.2).2, Below.refl _ _⟩
end Go.Proofs.Ytinejcoajebdjaa

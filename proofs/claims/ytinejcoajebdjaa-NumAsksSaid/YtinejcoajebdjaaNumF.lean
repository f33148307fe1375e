/- The chapter's examples, as the laws ask them: 'known' tells true. -/
import Derived.Test.YtinejcoajebdjaaNumE
namespace Go.Proofs.Ytinejcoajebdjaa
open Go.RowKit

theorem text_known : text (-18446744073709551616) = [45, 49, 56, 52, 52, 54, 55, 52, 52, 48, 55, 51, 55, 48, 57, 53, 53, 49, 54, 49, 54] := by decide +kernel

theorem text_lit (a : Int) (l : List UInt8) (ha : IsW a) (h : text a = l) (w : World) :
    Calls Try.prog 28 #[Wd a] w fun e w' => e = .returned (.string ⟨l.toArray⟩) ∧ Below w.heap.size w w' := by
  subst h; exact text_any a ha w

theorem add_known (w : World) : Calls Try.prog 25 #[.int .i64 9223372036854775807, .int .i64 1] w fun e w' => e = .returned (.tuple #[.int .i64 0, .bool false]) ∧ Below w.heap.size w w' :=
  add_any 9223372036854775807 1 (by unfold I64; omega) (by unfold I64; omega) w
theorem mul_known (w : World) : Calls Try.prog 27 #[.int .i64 (-3), .int .i64 5] w fun e w' => e = .returned (.tuple #[.int .i64 (-15), .bool true]) ∧ Below w.heap.size w w' :=
  mul_any (-3) 5 (by unfold I64; omega) (by unfold I64; omega) w

theorem known_any (w : World) : Calls Try.prog 11 #[] w fun e w' => e = .returned (.bool true) ∧ Below w.heap.size w w' := by
  go_enter Try.func11, Try.ntmps11
  go_wp2_with fail
  refine (add_known _).mono ?_
  rintro e w1 ⟨rfl, h1⟩
  go_wp2_with fail
  refine (mul_known _).mono ?_
  rintro e w2 ⟨rfl, h2⟩
  go_wp2_with fail
  refine (times_any (-9223372036854775808) 2 (-18446744073709551616) (by unfold I64; omega) (by unfold I64; omega) (by omega) _).mono ?_
  rintro e w3 ⟨rfl, h3⟩
  go_wp2_with fail
  refine (text_lit (-18446744073709551616) _ (by unfold IsW; omega) text_known _).mono ?_
  rintro e w4 ⟨rfl, h4⟩
  go_wp2_with fail
  refine (of_any (-1) (by unfold I64; omega) _).mono ?_
  rintro e w5 ⟨rfl, h5⟩
  go_wp2_with fail
  refine (of_any 1 (by unfold I64; omega) _).mono ?_
  rintro e w6 ⟨rfl, h6⟩
  go_wp2_with fail
  refine (compare_any (-1) 1 (-1) (by decide) _).mono ?_
  rintro e w7 ⟨rfl, h7⟩
  go_wp2_with fail
  go_ret
  exact ⟨rfl, chain2 (chain2 (chain2 (chain2 (chain2 (chain2 h1 h2) h3) h4) h5) h6) h7⟩
end Go.Proofs.Ytinejcoajebdjaa

/- The walks of the laws of layer 1 over plain numbers: NumSafe, NumTimes, NumOrder. -/
import Derived.Test.YtinejcoajebdjaaNumF
import Derived.Test.YtinejcoajebdjaaNumO
namespace Go.Proofs.Ytinejcoajebdjaa
open Go.RowKit

theorem fits_cases (n : Int) : (fits n = true ∧ bk n = wrap64 n) ∨ (fits n = false ∧ bk n = 0) := by
  by_cases h : I64 n
  · left
    rw [fits_of h, bk_of h]
    obtain ⟨x, y⟩ := h
    exact ⟨rfl, by unfold wrap64; omega⟩
  · right
    exact ⟨fits_not h, bk_not h⟩

/-- The seven ways through the test that tells whether a sum goes round. -/
theorem sum_cases (a b : Int) (ha : I64 a) (hb : I64 b) :
    (0 < a ∧ 0 < b ∧ wrap64 (a + b) < 0 ∧ fits (a + b) = false ∧ bk (a + b) = 0) ∨ (0 < a ∧ 0 < b ∧ 0 ≤ wrap64 (a + b) ∧ fits (a + b) = true ∧ bk (a + b) = wrap64 (a + b)) ∨
    (a < 0 ∧ b < 0 ∧ 0 ≤ wrap64 (a + b) ∧ fits (a + b) = false ∧ bk (a + b) = 0) ∨ (a < 0 ∧ b < 0 ∧ wrap64 (a + b) < 0 ∧ fits (a + b) = true ∧ bk (a + b) = wrap64 (a + b)) ∨
    (0 < a ∧ b ≤ 0 ∧ True ∧ fits (a + b) = true ∧ bk (a + b) = wrap64 (a + b)) ∨ (0 ≤ a ∧ a ≤ 0 ∧ True ∧ fits (a + b) = true ∧ bk (a + b) = wrap64 (a + b)) ∨ (a < 0 ∧ 0 ≤ b ∧ True ∧ fits (a + b) = true ∧ bk (a + b) = wrap64 (a + b)) := by
  obtain ⟨a1, a2⟩ := ha
  obtain ⟨b1, b2⟩ := hb
  by_cases h : I64 (a + b)
  · rw [fits_of h, bk_of h]
    obtain ⟨x, y⟩ := h
    have e : wrap64 (a + b) = a + b := by unfold wrap64; omega
    rw [e]
    simp
    omega
  · rw [fits_not h, bk_not h]
    unfold I64 at h
    have e : (0 < a ∧ 0 < b ∧ wrap64 (a + b) < 0) ∨ (a < 0 ∧ b < 0 ∧ 0 ≤ wrap64 (a + b)) := by unfold wrap64; omega
    rcases e with ⟨p, q, r⟩ | ⟨p, q, r⟩
    · exact .inl ⟨p, q, r, rfl, rfl⟩
    · exact .inr (.inr (.inl ⟨p, q, r, rfl, rfl⟩))

set_option maxHeartbeats 4000000 in
theorem safe_walk (a b : Int) (ha : I64 a) (hb : I64 b) (w : World) :
    Calls Try.prog 6 #[.int .i64 a, .int .i64 b] w fun e w' => e = .returned (.bool true) ∧ Below w.heap.size w w' := by
  have HA := Lib.hid ha
  have HB := Lib.hid hb
  have C1 := sum_cases a b ha hb
  have C2 := fits_cases (a - b)
  have C3 := fits_cases (a * b)
  clear ha hb
  rcases C1 with ⟨x1, x2, x3, x4, x5⟩ | ⟨x1, x2, x3, x4, x5⟩ | ⟨x1, x2, x3, x4, x5⟩ | ⟨x1, x2, x3, x4, x5⟩ | ⟨x1, x2, x3, x4, x5⟩ | ⟨x1, x2, x3, x4, x5⟩ | ⟨x1, x2, x3, x4, x5⟩ <;>
  rcases C2 with ⟨y1, y2⟩ | ⟨y1, y2⟩ <;> rcases C3 with ⟨z1, z2⟩ | ⟨z1, z2⟩
  all_goals
    go_enter Try.func6, Try.ntmps6
    go_wp2_with fail
    refine (add_any a b HA.out HB.out _).mono ?_
    rintro e w1 ⟨rfl, h1⟩
    go_wp2_with fail
    refine (sub_any a b HA.out HB.out _).mono ?_
    rintro e w2 ⟨rfl, h2⟩
    go_wp2_with fail
    refine (mul_any a b HA.out HB.out _).mono ?_
    rintro e w3 ⟨rfl, h3⟩
    go_wp2_with fail
    refine (times_any a b (a * b) HA.out HB.out rfl _).mono ?_
    rintro e w4 ⟨rfl, h4⟩
    go_wp2_with fail
    refine (back_any (a * b) _).mono ?_
    rintro e w5 ⟨rfl, h5⟩
    go_wp2_with fail
    refine (known_any _).mono ?_
    rintro e w6 ⟨rfl, h6⟩
    go_wp2_with fail
    go_ret
    exact ⟨by first | rfl | (simp; done) | (simp; omega), chain2 (chain2 (chain2 (chain2 (chain2 h1 h2) h3) h4) h5) h6⟩
end Go.Proofs.Ytinejcoajebdjaa

/- Contracts of package num's small functions. -/
import Derived.Test.YtinejcoajebdjaaRows
import Derived.Test.YtinejcoajebdjaaNumMath
import Derived.WalkKit
import Derived.WalkSpells
import Derived.StillTactics
import Derived.Laws.Pointers
import Derived.Laws.Externs
import Derived.Deep.RegionHeld3
import Derived.BigQuiet
import Derived.Lib.Hide
import Derived.RowKit3
import Derived.Outline
namespace Go.Proofs.Ytinejcoajebdjaa
open Go.RowKit

theorem add64 (x y c : Int) (hx : 0 ≤ x) (hy : 0 ≤ y) (hc0 : 0 ≤ c) (hc : c ≤ 1) (w : World) : (callFunc 44 #[.int .u64 x, .int .u64 y, .int .u64 c]).run Try.prog w =
    .ok (.value (.tuple #[.int .u64 ((x + y + c) % 18446744073709551616), .int .u64 ((x + y + c) / 18446744073709551616)])) w := by
  rw [run_callFunc_extern Try.func44 (by kernel_rfl) (by kernel_rfl) (by kernel_rfl) (e := add64Entry) (by kernel_rfl), run_add64 x y c hx hy hc0 hc]
  rfl

def sub64Entry : Array Value → Sem Value := fun args => do
  let (x, y, b) ← Extern.MathBitsCarry.three "Sub64" args
  pure (Extern.MathBitsCarry.pair ((x + Extern.MathBitsCarry.m64 - y - b) % Extern.MathBitsCarry.m64) (if x < y + b then 1 else 0))

theorem sub64 (x y b : Int) (hx : 0 ≤ x) (hy : 0 ≤ y) (hy' : y < 18446744073709551616) (hb0 : 0 ≤ b) (hb : b ≤ 1) (w : World) : (callFunc 43 #[.int .u64 x, .int .u64 y, .int .u64 b]).run Try.prog w =
    .ok (.value (.tuple #[.int .u64 ((x - y - b) % 18446744073709551616), .int .u64 (if x < y + b then 1 else 0)])) w := by
  obtain ⟨x, rfl⟩ := Int.eq_ofNat_of_zero_le hx
  obtain ⟨y, rfl⟩ := Int.eq_ofNat_of_zero_le hy
  obtain ⟨b, rfl⟩ := Int.eq_ofNat_of_zero_le hb0
  have e1 : (((x + 18446744073709551616 - y - b) % 18446744073709551616 : Nat) : Int) = ((x : Int) - y - b) % 18446744073709551616 := by omega
  have e2 : ((if x < y + b then 1 else 0 : Nat) : Int) = if (x : Int) < y + b then 1 else 0 := by split <;> split <;> omega
  rw [← e1, ← e2]
  have key : (sub64Entry #[.int .u64 x, .int .u64 y, .int .u64 b]).run Try.prog w =
      .ok (.tuple #[.int .u64 (((x + 18446744073709551616 - y - b) % 18446744073709551616 : Nat) : Int), .int .u64 ((if x < y + b then 1 else 0 : Nat) : Int)]) w := by
    have : b = 0 ∨ b = 1 := by omega
    rcases this with rfl | rfl <;> rfl
  rw [run_callFunc_extern Try.func43 (by kernel_rfl) (by kernel_rfl) (by kernel_rfl) (e := sub64Entry) (by kernel_rfl), key]
  rfl

theorem add64_0 (x y : Int) (hx : 0 ≤ x) (hy : 0 ≤ y) (w : World) : (callFunc 44 #[.int .u64 x, .int .u64 y, .int .u64 0]).run Try.prog w =
    .ok (.value (.tuple #[.int .u64 ((x + y) % 18446744073709551616), .int .u64 ((x + y) / 18446744073709551616)])) w := by
  simpa using add64 x y 0 hx hy (Int.le_refl 0) (by decide) w
theorem sub64_0 (x y : Int) (hx : 0 ≤ x) (hy : 0 ≤ y) (hy' : y < 18446744073709551616) (w : World) : (callFunc 43 #[.int .u64 x, .int .u64 y, .int .u64 0]).run Try.prog w =
    .ok (.value (.tuple #[.int .u64 ((x - y) % 18446744073709551616), .int .u64 (if x < y then 1 else 0)])) w := by
  simpa using sub64 x y 0 hx hy hy' (Int.le_refl 0) (by decide) w

/-- A number as an api.Wide's value. -/
abbrev Wd (n : Int) : Value := .agg #[.int .i64 (hi n), .int .u64 (lo n)]

theorem of_hi (a : Int) (h : I64 a) : a / 9223372036854775808 = hi a := by obtain ⟨x, y⟩ := h; unfold hi; omega
theorem of_lo (a : Int) : IntKind.u64.wrap a = lo a := by rw [IntKind.wrap_u64]; rfl

/-- num.Of -/
theorem of_any (a : Int) (ha : I64 a) (w : World) :
    Calls Try.prog 17 #[.int .i64 a] w fun e w' => e = .returned (Wd a) ∧ Below w.heap.size w w' := by
  have e1 := of_hi a ha
  have e2 := of_lo a
  obtain ⟨a1, a2⟩ := ha
  have H1 := Lib.hid e1
  have H2 := Lib.hid e2
  clear e1 e2
  go_enter Try.func17, Try.ntmps17
  go_wp2
  refine bodyPost_ret (v := Wd a) (by simp [results, Try.results17, go_sem]; exact ⟨H1.out, H2.out⟩) rfl ⟨rfl, ?_⟩
  exact (Below.refl _ _).alloc (Nat.le_refl _) _

theorem plus_eq (a b r : Int) (h : wr (a + b) = r) : wrap64 ((IntKind.u64.wrap (hi a) + IntKind.u64.wrap (hi b) + (lo a + lo b) / 18446744073709551616) % 18446744073709551616) = hi r ∧ (lo a + lo b) % 18446744073709551616 = lo r := by
  subst h; rw [IntKind.wrap_u64, IntKind.wrap_u64]; unfold wrap64 hi lo wr; omega
theorem minus_eq1 (a b r : Int) (k : lo a < lo b) (h : wr (a - b) = r) : wrap64 ((IntKind.u64.wrap (hi a) - IntKind.u64.wrap (hi b) - 1) % 18446744073709551616) = hi r ∧ (lo a - lo b) % 18446744073709551616 = lo r := by
  subst h; rw [IntKind.wrap_u64, IntKind.wrap_u64]; unfold lo at k; unfold wrap64 hi lo wr; omega
theorem minus_eq0 (a b r : Int) (k : lo b ≤ lo a) (h : wr (a - b) = r) : wrap64 ((IntKind.u64.wrap (hi a) - IntKind.u64.wrap (hi b)) % 18446744073709551616) = hi r ∧ (lo a - lo b) % 18446744073709551616 = lo r := by
  subst h; rw [IntKind.wrap_u64, IntKind.wrap_u64]; unfold lo at k; unfold wrap64 hi lo wr; omega

/-- num.Plus -/
theorem plus_any (a b r : Int) (ha : IsW a) (hb : IsW b) (hr : wr (a + b) = r) (w : World) :
    Calls Try.prog 23 #[Wd a, Wd b] w fun e w' => e = .returned (Wd r) ∧ Below w.heap.size w w' := by
  have h1 := hi_I64 ha
  have h2 := lo_U64 a
  have h3 := hi_I64 hb
  have h4 := lo_U64 b
  have HR := Lib.hid hr
  clear hr ha hb
  obtain ⟨a1, a2⟩ := h1; obtain ⟨b1, b2⟩ := h2; obtain ⟨c1, c2⟩ := h3; obtain ⟨d1, d2⟩ := h4
  have k0 : 0 ≤ (lo a + lo b) / 18446744073709551616 := by omega
  have k1 : (lo a + lo b) / 18446744073709551616 ≤ 1 := by omega
  have q1 : 0 ≤ IntKind.u64.wrap (hi a) := by rw [IntKind.wrap_u64]; omega
  have q2 : 0 ≤ IntKind.u64.wrap (hi b) := by rw [IntKind.wrap_u64]; omega
  go_enter Try.func23, Try.ntmps23
  go_wp2_with (first | simp only [add64_0 (lo a) (lo b) b1 d1] | simp only [add64 (IntKind.u64.wrap (hi a)) (IntKind.u64.wrap (hi b)) _ q1 q2 k0 k1])
  have E := plus_eq a b r HR.out
  refine bodyPost_ret (v := Wd r) (by simp [results, Try.results23, go_sem]; exact E) rfl ⟨rfl, ?_⟩
  exact (((Below.refl _ _).alloc (Nat.le_refl _) _).alloc (by simp) _).alloc (by simp; omega) _

/-- num.Minus -/
theorem minus_any (a b r : Int) (ha : IsW a) (hb : IsW b) (hr : wr (a - b) = r) (w : World) :
    Calls Try.prog 22 #[Wd a, Wd b] w fun e w' => e = .returned (Wd r) ∧ Below w.heap.size w w' := by
  have h1 := hi_I64 ha
  have h2 := lo_U64 a
  have h3 := hi_I64 hb
  have h4 := lo_U64 b
  have HR := Lib.hid hr
  clear hr ha hb
  obtain ⟨a1, a2⟩ := h1; obtain ⟨b1, b2⟩ := h2; obtain ⟨c1, c2⟩ := h3; obtain ⟨d1, d2⟩ := h4
  have q1 : 0 ≤ IntKind.u64.wrap (hi a) := by rw [IntKind.wrap_u64]; omega
  have q2 : 0 ≤ IntKind.u64.wrap (hi b) := by rw [IntKind.wrap_u64]; omega
  have q3 : IntKind.u64.wrap (hi b) < 18446744073709551616 := by rw [IntKind.wrap_u64]; omega
  by_cases k : lo a < lo b
  · go_enter Try.func22, Try.ntmps22
    go_wp2_with (first | (simp only [sub64_0 (lo a) (lo b) b1 d1 d2, if_pos k]) | simp only [sub64 (IntKind.u64.wrap (hi a)) (IntKind.u64.wrap (hi b)) 1 q1 q2 q3 (by decide) (by decide)])
    all_goals
      have E := minus_eq1 a b r (by omega) HR.out
      refine bodyPost_ret (v := Wd r) (by simp [results, Try.results22, go_sem]; exact E) rfl ⟨rfl, ?_⟩
      exact (((Below.refl _ _).alloc (Nat.le_refl _) _).alloc (by simp) _).alloc (by simp; omega) _
  · go_enter Try.func22, Try.ntmps22
    go_wp2_with (first | (simp only [sub64_0 (lo a) (lo b) b1 d1 d2, if_neg k]) | simp only [sub64_0 (IntKind.u64.wrap (hi a)) (IntKind.u64.wrap (hi b)) q1 q2 q3])
    all_goals
      have E := minus_eq0 a b r (by omega) HR.out
      refine bodyPost_ret (v := Wd r) (by simp [results, Try.results22, go_sem]; exact E) rfl ⟨rfl, ?_⟩
      exact (((Below.refl _ _).alloc (Nat.le_refl _) _).alloc (by simp) _).alloc (by simp; omega) _
end Go.Proofs.Ytinejcoajebdjaa

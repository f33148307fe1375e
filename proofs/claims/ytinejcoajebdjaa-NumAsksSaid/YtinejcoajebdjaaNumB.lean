/- Contracts of package num: products, the way back, checked numbers. -/
import Derived.Test.YtinejcoajebdjaaNumA
import Derived.Lib.Mul64
import Derived.Laws.Bits64b
namespace Go.Proofs.Ytinejcoajebdjaa
open Go.RowKit

namespace Mul64
theorem maskN (a : Nat) (ha : a < 18446744073709551616) : bits .and .u64 (a : Int) 4294967295 = ((a % 4294967296 : Nat) : Int) := by
  have h := bits_and_u64_nat a 4294967295 ha (by omega)
  have e : a &&& 4294967295 = a % 4294967296 := Nat.and_two_pow_sub_one_eq_mod a 32
  rw [e] at h
  exact h
theorem divN (a : Nat) : (a : Int) / 4294967296 = ((a / 4294967296 : Nat) : Int) := by omega
theorem mulN (a b : Nat) : (a : Int) * (b : Int) = ((a * b : Nat) : Int) := (Int.natCast_mul a b).symm
theorem addN (a b : Nat) : (a : Int) + (b : Int) = ((a + b : Nat) : Int) := (Int.natCast_add a b).symm
theorem wrapN (a : Nat) (ha : a < 18446744073709551616) : IntKind.u64.wrap (a : Int) = (a : Int) := by rw [IntKind.wrap_u64]; omega
theorem wrapM (a : Nat) : IntKind.u64.wrap (a : Int) = ((a % 18446744073709551616 : Nat) : Int) := by rw [IntKind.wrap_u64]; omega
end Mul64

set_option maxHeartbeats 1000000 in
theorem mul64_nat (x y : Nat) (hx : x < 18446744073709551616) (hy : y < 18446744073709551616) (w : World) :
    Calls Try.prog 41 #[.int .u64 x, .int .u64 y] w fun e w' => e = .returned (.tuple #[.int .u64 ((x * y / 18446744073709551616 : Nat) : Int), .int .u64 ((x * y % 18446744073709551616 : Nat) : Int)]) ∧ w = w' := by
  obtain ⟨bd, bt, bw, hhi⟩ := Go.Lib.mul64_hi x y hx hy
  have ba := Go.Lib.half_mul_le (a := x / 4294967296) (b := y / 4294967296) (by omega) (by omega)
  have bb := Go.Lib.half_mul_le (a := x / 4294967296) (b := y % 4294967296) (by omega) (by omega)
  have bc := Go.Lib.half_mul_le (a := x % 4294967296) (b := y / 4294967296) (by omega) (by omega)
  have ba' : x / 4294967296 * (y / 4294967296) < 18446744073709551616 := by omega
  have bb' : x / 4294967296 * (y % 4294967296) < 18446744073709551616 := by omega
  have bc' : x % 4294967296 * (y / 4294967296) < 18446744073709551616 := by omega
  have bh1 : x / 4294967296 * (y / 4294967296) + (x / 4294967296 * (y % 4294967296) + x % 4294967296 * (y % 4294967296) / 4294967296) / 4294967296 < 18446744073709551616 := by omega
  have bh : x / 4294967296 * (y / 4294967296) + (x / 4294967296 * (y % 4294967296) + x % 4294967296 * (y % 4294967296) / 4294967296) / 4294967296 + ((x / 4294967296 * (y % 4294967296) + x % 4294967296 * (y % 4294967296) / 4294967296) % 4294967296 + x % 4294967296 * (y / 4294967296)) / 4294967296 < 18446744073709551616 := by omega
  have HH := Lib.hid hhi
  clear hhi
  go_enter Try.func41, Try.ntmps41
  go_wp2
  simp only [Mul64.maskN x hx, Mul64.maskN y hy, Mul64.divN, Mul64.mulN, Mul64.addN, Mul64.wrapN _ bd, Mul64.wrapN _ bb', Mul64.wrapN _ bt, Mul64.maskN _ bt, Mul64.wrapN _ bc', Mul64.wrapN _ bw, Mul64.wrapN _ ba', Mul64.wrapN _ bh1, Mul64.wrapN _ bh, Mul64.wrapM (x * y)]
  rw [HH.out]
  go_ret2
  exact ⟨rfl, rfl⟩

theorem mul64_any (x y : Int) (hx : 0 ≤ x) (hy : 0 ≤ y) (hx' : x < 18446744073709551616) (hy' : y < 18446744073709551616) (w : World) :
    Calls Try.prog 41 #[.int .u64 x, .int .u64 y] w fun e w' => e = .returned (.tuple #[.int .u64 (x * y / 18446744073709551616), .int .u64 (x * y % 18446744073709551616)]) ∧ w = w' := by
  obtain ⟨x, rfl⟩ := Int.eq_ofNat_of_zero_le hx
  obtain ⟨y, rfl⟩ := Int.eq_ofNat_of_zero_le hy
  have h := mul64_nat x y (by omega) (by omega) w
  have e1 : ((x * y / 18446744073709551616 : Nat) : Int) = (x : Int) * y / 18446744073709551616 := by simp
  have e2 : ((x * y % 18446744073709551616 : Nat) : Int) = (x : Int) * y % 18446744073709551616 := by simp
  rw [e1, e2] at h
  exact h

def below0 (s n : Int) : Int := if s < 0 then n else 0

theorem ifBelow_any (s n : Int) (w : World) : Calls Try.prog 42 #[.int .i64 s, .int .i64 n] w fun e w' => e = .returned (.int .i64 (below0 s n)) ∧ w = w' := by
  by_cases h : s < 0
  · have e : below0 s n = n := by unfold below0; rw [if_pos h]
    rw [e]
    clear e
    go_enter Try.func42, Try.ntmps42
    go_wp2
    go_ret
    exact ⟨rfl, rfl⟩
  · have e : below0 s n = 0 := by unfold below0; rw [if_neg h]
    rw [e]
    clear e
    go_enter Try.func42, Try.ntmps42
    go_wp2
    go_ret
    exact ⟨rfl, rfl⟩

theorem u64_pos (a : Int) (h : 0 ≤ a) (k : I64 a) : IntKind.u64.wrap a = a := by obtain ⟨x, y⟩ := k; rw [IntKind.wrap_u64]; omega
theorem u64_neg (a : Int) (h : a < 0) (k : I64 a) : IntKind.u64.wrap a = a + 18446744073709551616 := by obtain ⟨x, y⟩ := k; rw [IntKind.wrap_u64]; omega
theorem mul_bound (a b : Int) (ha : I64 a) (hb : I64 b) : -85070591730234615865843651857942052864 ≤ a * b ∧ a * b ≤ 85070591730234615865843651857942052864 := by
  obtain ⟨a1, a2⟩ := ha; obtain ⟨b1, b2⟩ := hb
  have x : a.natAbs ≤ 9223372036854775808 := by omega
  have y : b.natAbs ≤ 9223372036854775808 := by omega
  have z := Nat.mul_le_mul x y
  rw [← Int.natAbs_mul] at z
  omega
theorem times_eq (a b r : Int) (ha : I64 a) (hb : I64 b) (h : a * b = r) : wrap64 (wrap64 (wrap64 (IntKind.u64.wrap a * IntKind.u64.wrap b / 18446744073709551616) - below0 a b) - below0 b a) = hi r ∧ IntKind.u64.wrap a * IntKind.u64.wrap b % 18446744073709551616 = lo r := by
  have m := mul_bound a b ha hb
  rw [h] at m
  by_cases x : a < 0 <;> by_cases y : b < 0
  · have e : IntKind.u64.wrap a * IntKind.u64.wrap b = r + 18446744073709551616 * a + 18446744073709551616 * b + 340282366920938463463374607431768211456 := by
      rw [u64_neg a x ha, u64_neg b y hb, Int.mul_add, Int.add_mul, Int.add_mul, h]; omega
    rw [e]
    obtain ⟨a1, a2⟩ := ha; obtain ⟨b1, b2⟩ := hb
    unfold below0; rw [if_pos x, if_pos y]; unfold wrap64 hi lo; omega
  · have e : IntKind.u64.wrap a * IntKind.u64.wrap b = r + 18446744073709551616 * b := by
      rw [u64_neg a x ha, u64_pos b (by omega) hb, Int.add_mul, h]
    rw [e]
    obtain ⟨a1, a2⟩ := ha; obtain ⟨b1, b2⟩ := hb
    unfold below0; rw [if_pos x, if_neg y]; unfold wrap64 hi lo; omega
  · have e : IntKind.u64.wrap a * IntKind.u64.wrap b = r + 18446744073709551616 * a := by
      rw [u64_pos a (by omega) ha, u64_neg b y hb, Int.mul_add, h]; omega
    rw [e]
    obtain ⟨a1, a2⟩ := ha; obtain ⟨b1, b2⟩ := hb
    unfold below0; rw [if_neg x, if_pos y]; unfold wrap64 hi lo; omega
  · have e : IntKind.u64.wrap a * IntKind.u64.wrap b = r := by
      rw [u64_pos a (by omega) ha, u64_pos b (by omega) hb, h]
    rw [e]
    obtain ⟨a1, a2⟩ := ha; obtain ⟨b1, b2⟩ := hb
    unfold below0; rw [if_neg x, if_neg y]; unfold wrap64 hi lo; omega

/-- num.Times -/
theorem times_any (a b r : Int) (ha : I64 a) (hb : I64 b) (hr : a * b = r) (w : World) :
    Calls Try.prog 19 #[.int .i64 a, .int .i64 b] w fun e w' => e = .returned (Wd r) ∧ Below w.heap.size w w' := by
  have q1 : 0 ≤ IntKind.u64.wrap a := by rw [IntKind.wrap_u64]; omega
  have q2 : 0 ≤ IntKind.u64.wrap b := by rw [IntKind.wrap_u64]; omega
  have q3 : IntKind.u64.wrap a < 18446744073709551616 := by rw [IntKind.wrap_u64]; omega
  have q4 : IntKind.u64.wrap b < 18446744073709551616 := by rw [IntKind.wrap_u64]; omega
  have HR := Lib.hid hr
  have HA := Lib.hid ha
  have HB := Lib.hid hb
  clear hr ha hb
  go_enter Try.func19, Try.ntmps19
  go_wp2_with fail
  refine (mul64_any _ _ q1 q2 q3 q4 _).mono ?_
  rintro e w' ⟨rfl, rfl⟩
  go_wp2_with fail
  refine (ifBelow_any _ _ _).mono ?_
  rintro e w' ⟨rfl, rfl⟩
  go_wp2_with fail
  refine (ifBelow_any _ _ _).mono ?_
  rintro e w' ⟨rfl, rfl⟩
  go_wp2_with fail
  have E := times_eq a b r HA.out HB.out HR.out
  refine bodyPost_ret (v := Wd r) (by simp [results, Try.results19, go_sem]; exact E) rfl ⟨rfl, ?_⟩
  exact ((Below.refl _ _).alloc (Nat.le_refl _) _)

theorem bcell {W w1 : World} (hb : Below W.heap.size W w1) : (∀ b o, b < W.heap.size → w1.cell? ⟨b, o, none⟩ = W.cell? ⟨b, o, none⟩) ∧ (∀ b o, b < W.heap.size → w1.frozen? ⟨b, o, none⟩ = W.frozen? ⟨b, o, none⟩) :=
  ⟨fun b o h => hb.cell (p := ⟨b, o, none⟩) h, fun b o h => hb.frozen (p := ⟨b, o, none⟩) h⟩

theorem wrap_lo (a : Int) (h : I64 a) : wrap64 (lo a) = a := by obtain ⟨x, y⟩ := h; unfold wrap64 lo; omega
theorem wrap_lo_I64 (a : Int) : I64 (wrap64 (lo a)) := by unfold I64 wrap64 lo; omega
theorem wrap_lo_ne (a : Int) (h : ¬ I64 a) : ¬ (hi (wrap64 (lo a)) = hi a ∧ lo (wrap64 (lo a)) = lo a) := by
  rintro ⟨p, q⟩
  apply h
  have := hl (wrap64 (lo a))
  rw [p, q, hl] at this
  rw [this]
  exact wrap_lo_I64 a

/-- Behind w the world has at least k blocks more, and what was there is as it was. -/
def Own (w : World) (k : Nat) (w' : World) : Prop := Below w.heap.size w w' ∧ w.heap.size + k ≤ w'.heap.size
theorem Own.of {w w' : World} {k : Nat} (h : Below w.heap.size w w') (g : w.heap.size + k ≤ w'.heap.size) : Own w k w' := ⟨h, g⟩
theorem Own.step {w W w' : World} {k : Nat} (h : Own w k W) (hb : Below W.heap.size W w') : Own w k w' :=
  ⟨h.1.trans (hb.mono (by have := h.1.size; omega)), by have := hb.size; have := h.2; omega⟩
theorem Own.cell {w W w' : World} {k b o : Nat} {u : Value} (h : Own w k W) (hb : Below W.heap.size W w') (hlt : b < w.heap.size + k) (hc : W.cell? ⟨b, o, none⟩ = some u) : w'.cell? ⟨b, o, none⟩ = some u :=
  (hb.cell (p := ⟨b, o, none⟩) (by have := h.2; show b < _; omega)).trans hc

theorem keep1 {w W w' : World} {b : Nat} {u v : Value} {k : Nat} (hs : W.cell? ⟨b, 0, none⟩ = some u ∧ W.cell? ⟨b, 1, none⟩ = some v ∧ Own w k W) (hlt : b < w.heap.size + k) (hb : Below W.heap.size W w') :
    w'.cell? ⟨b, 0, none⟩ = some u ∧ w'.cell? ⟨b, 1, none⟩ = some v ∧ Own w k w' :=
  ⟨hs.2.2.cell hb hlt hs.1, hs.2.2.cell hb hlt hs.2.1, hs.2.2.step hb⟩
theorem own1 (w : World) (o : Obj) : Own w 1 (w.alloc o) := ⟨(Below.refl _ _).alloc (Nat.le_refl _) _, by simp⟩
theorem own2 (w : World) (o p : Obj) : Own w 2 ((w.alloc o).alloc p) := ⟨((Below.refl _ _).alloc (Nat.le_refl _) _).alloc (by simp) _, by simp⟩
theorem Own.drew {w w' : World} {k : Nat} (h : Own w k w') : Own w k w'.drew := ⟨h.1.drew, h.2⟩

/-- num.Back, where it fits -/
theorem back_yes (a : Int) (h : I64 a) (w : World) :
    Calls Try.prog 21 #[Wd a] w fun e w' => e = .returned (.tuple #[.int .i64 a, .bool true]) ∧ Below w.heap.size w w' := by
  have E := wrap_lo a h
  have HE := Lib.hid E
  have HA := Lib.hid h
  clear E h
  go_enter Try.func21, Try.ntmps21
  go_wp2
  rw [HE.out]
  go_region_held3 (fun w' => w'.cell? ⟨w.heap.size, 0, none⟩ = some (.int .i64 (hi a)) ∧ w'.cell? ⟨w.heap.size, 1, none⟩ = some (.int .u64 (lo a)) ∧ Own w 1 w')
    (first | exact ⟨by simp [go_sem], by simp [go_sem], (own1 _ _).drew⟩ | exact keep1 ⟨by simp [go_sem], by simp [go_sem], (own1 _ _).drew⟩ (by omega) hb | exact keep1 (by assumption) (by omega) hb)
    (first | (go_at_call 17; refine (of_any a HA.out _).mono ?_; rintro e w' ⟨rfl, hb⟩))
  rename_i hs
  go_wp2
  go_ret2
  exact ⟨rfl, hs.2.2.1⟩

theorem back_no1 (a k : Int) (HK : Hid (wrap64 (lo a) = k)) (HI : Hid (I64 k)) (h1 : (hi k == hi a) = false) (w : World) :
    Calls Try.prog 21 #[Wd a] w fun e w' => e = .returned (.tuple #[.int .i64 0, .bool false]) ∧ Below w.heap.size w w' := by
  go_enter Try.func21, Try.ntmps21
  go_wp2
  rw [HK.out]
  go_region_held3 (fun w' => w'.cell? ⟨w.heap.size, 0, none⟩ = some (.int .i64 (hi a)) ∧ w'.cell? ⟨w.heap.size, 1, none⟩ = some (.int .u64 (lo a)) ∧ Own w 1 w')
    (first | exact ⟨by simp [go_sem], by simp [go_sem], (own1 _ _).drew⟩ | exact keep1 ⟨by simp [go_sem], by simp [go_sem], (own1 _ _).drew⟩ (by omega) hb | exact keep1 (by assumption) (by omega) hb)
    (first | (go_at_call 17; refine (of_any k HI.out _).mono ?_; rintro e w' ⟨rfl, hb⟩))
  rename_i hs
  go_wp2
  go_ret2
  exact ⟨rfl, hs.2.2.1⟩

theorem back_no2 (a k : Int) (HK : Hid (wrap64 (lo a) = k)) (HI : Hid (I64 k)) (h1 : (hi k == hi a) = true) (h2 : (lo k == lo a) = false) (w : World) :
    Calls Try.prog 21 #[Wd a] w fun e w' => e = .returned (.tuple #[.int .i64 0, .bool false]) ∧ Below w.heap.size w w' := by
  go_enter Try.func21, Try.ntmps21
  go_wp2
  rw [HK.out]
  go_region_held3 (fun w' => w'.cell? ⟨w.heap.size, 0, none⟩ = some (.int .i64 (hi a)) ∧ w'.cell? ⟨w.heap.size, 1, none⟩ = some (.int .u64 (lo a)) ∧ Own w 1 w')
    (first | exact ⟨by simp [go_sem], by simp [go_sem], (own1 _ _).drew⟩ | exact keep1 ⟨by simp [go_sem], by simp [go_sem], (own1 _ _).drew⟩ (by omega) hb | exact keep1 (by assumption) (by omega) hb)
    (first | (go_at_call 17; refine (of_any k HI.out _).mono ?_; rintro e w' ⟨rfl, hb⟩))
  rename_i hs
  go_wp2
  go_ret2
  exact ⟨rfl, hs.2.2.1⟩

/-- num.Back, where it does not fit -/
theorem back_no (a : Int) (h : ¬ I64 a) (w : World) :
    Calls Try.prog 21 #[Wd a] w fun e w' => e = .returned (.tuple #[.int .i64 0, .bool false]) ∧ Below w.heap.size w w' := by
  have E := wrap_lo_ne a h
  by_cases g : hi (wrap64 (lo a)) = hi a
  · exact back_no2 a _ rfl (wrap_lo_I64 a) (by simp [g]) (by simp; exact fun x => E ⟨g, x⟩) w
  · exact back_no1 a _ rfl (wrap_lo_I64 a) (by simp [g]) w

/-- What Back tells of a number. -/
def bk (a : Int) : Int := if -9223372036854775808 ≤ a ∧ a < 9223372036854775808 then a else 0
def fits (a : Int) : Bool := decide (-9223372036854775808 ≤ a ∧ a < 9223372036854775808)
theorem bk_of {a : Int} (h : I64 a) : bk a = a := if_pos h
theorem fits_of {a : Int} (h : I64 a) : fits a = true := decide_eq_true h
theorem bk_not {a : Int} (h : ¬ I64 a) : bk a = 0 := if_neg h
theorem fits_not {a : Int} (h : ¬ I64 a) : fits a = false := decide_eq_false h

theorem back_any (a : Int) (w : World) :
    Calls Try.prog 21 #[Wd a] w fun e w' => e = .returned (.tuple #[.int .i64 (bk a), .bool (fits a)]) ∧ Below w.heap.size w w' := by
  by_cases h : I64 a
  · rw [bk_of h, fits_of h]; exact back_yes a h w
  · rw [bk_not h, fits_not h]; exact back_no a h w

theorem wr_add (a b : Int) (ha : I64 a) (hb : I64 b) : wr (a + b) = a + b := by obtain ⟨_, _⟩ := ha; obtain ⟨_, _⟩ := hb; unfold wr; omega
theorem wr_sub (a b : Int) (ha : I64 a) (hb : I64 b) : wr (a - b) = a - b := by obtain ⟨_, _⟩ := ha; obtain ⟨_, _⟩ := hb; unfold wr; omega

theorem chain2 {w w1 w2 : World} (h1 : Below w.heap.size w w1) (h2 : Below w1.heap.size w1 w2) : Below w.heap.size w w2 := h1.trans (h2.mono h1.size)

/-- num.Add -/
theorem add_any (a b : Int) (ha : I64 a) (hb : I64 b) (w : World) :
    Calls Try.prog 25 #[.int .i64 a, .int .i64 b] w fun e w' => e = .returned (.tuple #[.int .i64 (bk (a + b)), .bool (fits (a + b))]) ∧ Below w.heap.size w w' := by
  have HA := Lib.hid ha
  have HB := Lib.hid hb
  clear ha hb
  go_enter Try.func25, Try.ntmps25
  go_wp2_with fail
  refine (of_any a HA.out _).mono ?_
  rintro e w1 ⟨rfl, b1⟩
  go_wp2_with fail
  refine (of_any b HB.out _).mono ?_
  rintro e w2 ⟨rfl, b2⟩
  go_wp2_with fail
  refine (plus_any a b (a + b) (IsW_of_I64 HA.out) (IsW_of_I64 HB.out) (wr_add a b HA.out HB.out) _).mono ?_
  rintro e w3 ⟨rfl, b3⟩
  go_wp2_with fail
  refine (back_any (a + b) _).mono ?_
  rintro e w4 ⟨rfl, b4⟩
  go_wp2_with fail
  go_ret2
  exact ⟨rfl, chain2 (chain2 (chain2 b1 b2) b3) b4⟩

/-- num.Sub -/
theorem sub_any (a b : Int) (ha : I64 a) (hb : I64 b) (w : World) :
    Calls Try.prog 26 #[.int .i64 a, .int .i64 b] w fun e w' => e = .returned (.tuple #[.int .i64 (bk (a - b)), .bool (fits (a - b))]) ∧ Below w.heap.size w w' := by
  have HA := Lib.hid ha
  have HB := Lib.hid hb
  clear ha hb
  go_enter Try.func26, Try.ntmps26
  go_wp2_with fail
  refine (of_any a HA.out _).mono ?_
  rintro e w1 ⟨rfl, b1⟩
  go_wp2_with fail
  refine (of_any b HB.out _).mono ?_
  rintro e w2 ⟨rfl, b2⟩
  go_wp2_with fail
  refine (minus_any a b (a - b) (IsW_of_I64 HA.out) (IsW_of_I64 HB.out) (wr_sub a b HA.out HB.out) _).mono ?_
  rintro e w3 ⟨rfl, b3⟩
  go_wp2_with fail
  refine (back_any (a - b) _).mono ?_
  rintro e w4 ⟨rfl, b4⟩
  go_wp2_with fail
  go_ret2
  exact ⟨rfl, chain2 (chain2 (chain2 b1 b2) b3) b4⟩

/-- num.Mul -/
theorem mul_any (a b : Int) (ha : I64 a) (hb : I64 b) (w : World) :
    Calls Try.prog 27 #[.int .i64 a, .int .i64 b] w fun e w' => e = .returned (.tuple #[.int .i64 (bk (a * b)), .bool (fits (a * b))]) ∧ Below w.heap.size w w' := by
  have HA := Lib.hid ha
  have HB := Lib.hid hb
  clear ha hb
  go_enter Try.func27, Try.ntmps27
  go_wp2_with fail
  refine (times_any a b (a * b) HA.out HB.out rfl _).mono ?_
  rintro e w1 ⟨rfl, b1⟩
  go_wp2_with fail
  refine (back_any (a * b) _).mono ?_
  rintro e w4 ⟨rfl, b4⟩
  go_wp2_with fail
  go_ret2
  exact ⟨rfl, chain2 b1 b4⟩

/-- num.Neg -/
theorem neg_any (a : Int) (ha : I64 a) (w : World) :
    Calls Try.prog 36 #[.int .i64 a] w fun e w' => e = .returned (.tuple #[.int .i64 (bk (-a)), .bool (fits (-a))]) ∧ Below w.heap.size w w' := by
  have HA := Lib.hid ha
  clear ha
  go_enter Try.func36, Try.ntmps36
  go_wp2_with fail
  refine (sub_any 0 a (by unfold I64; omega) HA.out _).mono ?_
  rintro e w1 ⟨rfl, b1⟩
  go_wp2_with fail
  go_ret2
  exact ⟨rfl, b1⟩
end Go.Proofs.Ytinejcoajebdjaa

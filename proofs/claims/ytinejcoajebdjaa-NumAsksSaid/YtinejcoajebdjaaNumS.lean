/- Contracts of the document's answers: the way back, checked numbers, products. -/
import Derived.Test.YtinejcoajebdjaaNumR
namespace Go.Proofs.Ytinejcoajebdjaa
open Go.RowKit

theorem rback_walk (a r1 r2 : Int) (h1 : cm a 9223372036854775807 = r1) (h2 : cm a (-9223372036854775808) = r2) (d1 : decide (0 < r1) = false) (d2 : decide (r2 < 0) = false) (hf : I64 a) (w : World) :
    Calls Try.prog 38 #[Wd a] w fun e w' => e = .returned (.tuple #[.int .i64 a, .bool true]) ∧ Below w.heap.size w w' := by
  have H1 := Lib.hid h1
  have H2 := Lib.hid h2
  have HE := Lib.hid (wrap_lo a hf)
  clear h1 h2 hf
  go_enter Try.func38, Try.ntmps38
  go_wp2_with fail
  have c0 : (w.alloc (.cells #[.int .i64 (hi a), .int .u64 (lo a)] 24)).cell? ⟨w.heap.size, 0, none⟩ = some (.int .i64 (hi a)) := by simp [go_sem]
  have c1 : (w.alloc (.cells #[.int .i64 (hi a), .int .u64 (lo a)] 24)).cell? ⟨w.heap.size, 1, none⟩ = some (.int .u64 (lo a)) := by simp [go_sem]
  have HP := Lib.hid (own1 w (.cells #[.int .i64 (hi a), .int .u64 (lo a)] 24))
  generalize w.alloc (.cells #[.int .i64 (hi a), .int .u64 (lo a)] 24) = X at *
  go_region_held3 (fun u => u.cell? ⟨w.heap.size, 0, none⟩ = some (.int .i64 (hi a)) ∧ u.cell? ⟨w.heap.size, 1, none⟩ = some (.int .u64 (lo a)) ∧ Own w 1 u)
    (first | exact ⟨c0, c1, HP.out.drew⟩ | exact keep1 ⟨c0, c1, HP.out.drew⟩ (by omega) hb | (refine keep1 ?_ (by omega) hb; assumption))
    (first
      | (go_at_call 18; (with_reducible refine (rof_any 9223372036854775807 (by unfold I64; omega) _).mono ?_); rintro e w' ⟨rfl, hb⟩)
      | (go_at_call 18; (with_reducible refine (rof_any (-9223372036854775808) (by unfold I64; omega) _).mono ?_); rintro e w' ⟨rfl, hb⟩)
      | (go_at_call 39; (with_reducible refine (rcompare_any a 9223372036854775807 r1 H1.out _).mono ?_); rintro e w' ⟨rfl, hb⟩)
      | (go_at_call 39; (with_reducible refine (rcompare_any a (-9223372036854775808) r2 H2.out _).mono ?_); rintro e w' ⟨rfl, hb⟩))
  all_goals
    rename_i hs
    have H9 := Lib.hid hs.2.2.1
    have k0 := hs.1
    have k1 := hs.2.1
    clear hs
    go_wp2_with fail
    rw [HE.out]
    go_ret2
    exact ⟨rfl, H9.out⟩

theorem rback_no1 (a r1 : Int) (h1 : cm a 9223372036854775807 = r1) (d1 : decide (0 < r1) = true) (w : World) :
    Calls Try.prog 38 #[Wd a] w fun e w' => e = .returned (.tuple #[.int .i64 0, .bool false]) ∧ Below w.heap.size w w' := by
  have H1 := Lib.hid h1
  clear h1
  go_enter Try.func38, Try.ntmps38
  go_wp2_with fail
  have c0 : (w.alloc (.cells #[.int .i64 (hi a), .int .u64 (lo a)] 24)).cell? ⟨w.heap.size, 0, none⟩ = some (.int .i64 (hi a)) := by simp [go_sem]
  have c1 : (w.alloc (.cells #[.int .i64 (hi a), .int .u64 (lo a)] 24)).cell? ⟨w.heap.size, 1, none⟩ = some (.int .u64 (lo a)) := by simp [go_sem]
  have HP := Lib.hid (own1 w (.cells #[.int .i64 (hi a), .int .u64 (lo a)] 24))
  generalize w.alloc (.cells #[.int .i64 (hi a), .int .u64 (lo a)] 24) = X at *
  have HC := Lib.hid (And.intro c0 c1)
  go_region_with (first
    | (go_at_call 18
       (with_reducible refine (rof_any 9223372036854775807 (by unfold I64; omega) _).mono ?_)
       rintro e w1 ⟨rfl, h1⟩
       have KK := keep1 (w := w) (k := 1) (W := X.drew) ⟨HC.out.1, HC.out.2, HP.out.drew⟩ (by omega) h1
       have HK := Lib.hid KK.2.2
       have k0 := KK.1
       have k1 := KK.2.1
       clear KK h1)
    | (go_at_call 39
       (with_reducible refine (rcompare_any a 9223372036854775807 r1 H1.out _).mono ?_)
       rintro e w2 ⟨rfl, h2⟩
       have HK2 := Lib.hid (HK.out.step h2)
       clear h2))
  all_goals
    go_wp2_with fail
    go_ret2
    exact ⟨rfl, HK2.out.1⟩

theorem rback_no2 (a r1 r2 : Int) (h1 : cm a 9223372036854775807 = r1) (h2 : cm a (-9223372036854775808) = r2) (d1 : decide (0 < r1) = false) (d2 : decide (r2 < 0) = true) (w : World) :
    Calls Try.prog 38 #[Wd a] w fun e w' => e = .returned (.tuple #[.int .i64 0, .bool false]) ∧ Below w.heap.size w w' := by
  have H1 := Lib.hid h1
  have H2 := Lib.hid h2
  clear h1 h2
  go_enter Try.func38, Try.ntmps38
  go_wp2_with fail
  have c0 : (w.alloc (.cells #[.int .i64 (hi a), .int .u64 (lo a)] 24)).cell? ⟨w.heap.size, 0, none⟩ = some (.int .i64 (hi a)) := by simp [go_sem]
  have c1 : (w.alloc (.cells #[.int .i64 (hi a), .int .u64 (lo a)] 24)).cell? ⟨w.heap.size, 1, none⟩ = some (.int .u64 (lo a)) := by simp [go_sem]
  have HP := Lib.hid (own1 w (.cells #[.int .i64 (hi a), .int .u64 (lo a)] 24))
  generalize w.alloc (.cells #[.int .i64 (hi a), .int .u64 (lo a)] 24) = X at *
  go_region_held3 (fun u => u.cell? ⟨w.heap.size, 0, none⟩ = some (.int .i64 (hi a)) ∧ u.cell? ⟨w.heap.size, 1, none⟩ = some (.int .u64 (lo a)) ∧ Own w 1 u)
    (first | exact ⟨c0, c1, HP.out.drew⟩ | exact keep1 ⟨c0, c1, HP.out.drew⟩ (by omega) hb | (refine keep1 ?_ (by omega) hb; assumption))
    (first
      | (go_at_call 18; (with_reducible refine (rof_any 9223372036854775807 (by unfold I64; omega) _).mono ?_); rintro e w' ⟨rfl, hb⟩)
      | (go_at_call 18; (with_reducible refine (rof_any (-9223372036854775808) (by unfold I64; omega) _).mono ?_); rintro e w' ⟨rfl, hb⟩)
      | (go_at_call 39; (with_reducible refine (rcompare_any a 9223372036854775807 r1 H1.out _).mono ?_); rintro e w' ⟨rfl, hb⟩)
      | (go_at_call 39; (with_reducible refine (rcompare_any a (-9223372036854775808) r2 H2.out _).mono ?_); rintro e w' ⟨rfl, hb⟩))
  all_goals
    rename_i hs
    have H9 := Lib.hid hs.2.2.1
    clear hs
    go_wp2_with fail
    go_ret2
    exact ⟨rfl, H9.out⟩

/-- Back. -/
theorem rback_any (a : Int) (w : World) :
    Calls Try.prog 38 #[Wd a] w fun e w' => e = .returned (.tuple #[.int .i64 (bk a), .bool (fits a)]) ∧ Below w.heap.size w w' := by
  by_cases h : I64 a
  · rw [bk_of h, fits_of h]
    obtain ⟨x, y⟩ := h
    refine rback_walk a _ _ rfl rfl ?_ ?_ ⟨x, y⟩ w
    · unfold cm; (repeat' split) <;> first | rfl | (exfalso; omega)
    · unfold cm; (repeat' split) <;> first | rfl | (exfalso; omega)
  · rw [bk_not h, fits_not h]
    unfold I64 at h
    by_cases g : 9223372036854775807 < a
    · exact rback_no1 a 1 (cm_gt g) (by decide) w
    · exact rback_no2 a _ (-1) rfl (cm_lt (by omega)) (by unfold cm; (repeat' split) <;> first | rfl | (exfalso; omega)) (by decide) w

/-- Add. -/
theorem radd_any (a b : Int) (ha : I64 a) (hb : I64 b) (w : World) :
    Calls Try.prog 33 #[.int .i64 a, .int .i64 b] w fun e w' => e = .returned (.tuple #[.int .i64 (bk (a + b)), .bool (fits (a + b))]) ∧ Below w.heap.size w w' := by
  have HA := Lib.hid ha
  have HB := Lib.hid hb
  clear ha hb
  go_enter Try.func33, Try.ntmps33
  go_wp2_with fail
  refine (rof_any a HA.out _).mono ?_
  rintro e w1 ⟨rfl, b1⟩
  go_wp2_with fail
  refine (rof_any b HB.out _).mono ?_
  rintro e w2 ⟨rfl, b2⟩
  go_wp2_with fail
  refine (rplus_any a b (a + b) (IsW_of_I64 HA.out) (IsW_of_I64 HB.out) (wr_add a b HA.out HB.out) _).mono ?_
  rintro e w3 ⟨rfl, b3⟩
  go_wp2_with fail
  refine (rback_any (a + b) _).mono ?_
  rintro e w4 ⟨rfl, b4⟩
  go_wp2_with fail
  go_ret2
  exact ⟨rfl, chain2 (chain2 (chain2 b1 b2) b3) b4⟩

/-- Sub. -/
theorem rsub_any (a b : Int) (ha : I64 a) (hb : I64 b) (w : World) :
    Calls Try.prog 34 #[.int .i64 a, .int .i64 b] w fun e w' => e = .returned (.tuple #[.int .i64 (bk (a - b)), .bool (fits (a - b))]) ∧ Below w.heap.size w w' := by
  have HA := Lib.hid ha
  have HB := Lib.hid hb
  clear ha hb
  go_enter Try.func34, Try.ntmps34
  go_wp2_with fail
  refine (rof_any a HA.out _).mono ?_
  rintro e w1 ⟨rfl, b1⟩
  go_wp2_with fail
  refine (rof_any b HB.out _).mono ?_
  rintro e w2 ⟨rfl, b2⟩
  go_wp2_with fail
  refine (rminus_any a b (a - b) (IsW_of_I64 HA.out) (IsW_of_I64 HB.out) (wr_sub a b HA.out HB.out) _).mono ?_
  rintro e w3 ⟨rfl, b3⟩
  go_wp2_with fail
  refine (rback_any (a - b) _).mono ?_
  rintro e w4 ⟨rfl, b4⟩
  go_wp2_with fail
  go_ret2
  exact ⟨rfl, chain2 (chain2 (chain2 b1 b2) b3) b4⟩

/-- Neg. -/
theorem rneg_any (a : Int) (ha : I64 a) (w : World) :
    Calls Try.prog 37 #[.int .i64 a] w fun e w' => e = .returned (.tuple #[.int .i64 (bk (-a)), .bool (fits (-a))]) ∧ Below w.heap.size w w' := by
  have HA := Lib.hid ha
  clear ha
  go_enter Try.func37, Try.ntmps37
  go_wp2_with fail
  refine (rof_any a HA.out _).mono ?_
  rintro e w1 ⟨rfl, b1⟩
  go_wp2_with fail
  refine (rless_any a (-a) (IsW_of_I64 HA.out) (wr_neg64 a HA.out) _).mono ?_
  rintro e w3 ⟨rfl, b3⟩
  go_wp2_with fail
  refine (rback_any (-a) _).mono ?_
  rintro e w4 ⟨rfl, b4⟩
  go_wp2_with fail
  go_ret2
  exact ⟨rfl, chain2 (chain2 b1 b3) b4⟩
end Go.Proofs.Ytinejcoajebdjaa

/- Contracts of the document's answers for layer 2: a number's word. -/
import Derived.Test.YtnlhipbdnihapaaDoorWordC
namespace Go.Proofs.YtnlhipbdnihapaaDoor.Word
open Go.RowKit

theorem digit_cut : ∀ d : Nat, d < 10 → (⟨#[48, 49, 50, 51, 52, 53, 54, 55, 56, 57]⟩ : ByteArray).extract d (d + 1) = ⟨[UInt8.ofNat (48 + d)].toArray⟩ := by decide +kernel
theorem digit_str (d : Nat) (h : d < 10) : Value.string ((⟨#[48, 49, 50, 51, 52, 53, 54, 55, 56, 57]⟩ : ByteArray).extract d (d + 1)) = str [UInt8.ofNat (48 + d)] := by rw [digit_cut d h]
theorem digit_low (d : Nat) (h : d < 10) : Value.string ((⟨#[48, 49, 50, 51, 52, 53, 54, 55, 56, 57]⟩ : ByteArray).extract d (d + 1)) = str (textB (d : Int)) := by
  rw [digit_str d h, textB_low (n := (d : Int)) (by omega) (by omega), Int.toNat_natCast]
theorem digit_neg_low (d : Nat) (h : d < 10) (h1 : 0 < d) : Value.string ((⟨#[45]⟩ : ByteArray) ++ (⟨#[48, 49, 50, 51, 52, 53, 54, 55, 56, 57]⟩ : ByteArray).extract d (d + 1)) = str (textB (-(d : Int))) := by
  rw [digit_cut d h, textB_neg_low (n := -(d : Int)) (by omega) (by omega), show (- -(d : Int)).toNat = d by omega]
  congr 1
theorem digit_step (d : Nat) (h : d < 10) (l : Bytes) : Value.string ((⟨l.toArray⟩ : ByteArray) ++ (⟨#[48, 49, 50, 51, 52, 53, 54, 55, 56, 57]⟩ : ByteArray).extract d (d + 1)) = str (l ++ [UInt8.ofNat (48 + d)]) := by
  rw [digit_cut d h, str_cat]

theorem rtext_low (n : Nat) (h : n < 10) (w : World) :
    Calls Tryd.prog 14 #[.int .i64 (n : Int)] w fun e w' => e = .returned (str (textB n)) ∧ ∃ m, w' = w.drewN m := by
  have hr := Lib.hid (digit_low n h)
  go_enter Tryd.func14, Tryd.ntmps14
  go_wp2_with fail
  go_ret
  exact ⟨congrArg Ending.returned hr.out, 0, rfl⟩
theorem rtext_neg_low (n : Nat) (h : n < 10) (h1 : 0 < n) (w : World) :
    Calls Tryd.prog 14 #[.int .i64 (-(n : Int))] w fun e w' => e = .returned (str (textB (-(n : Int)))) ∧ ∃ m, w' = w.drewN m := by
  have hr := Lib.hid (digit_neg_low n h h1)
  have i0 : -(n : Int) < 0 := by omega
  have i1 : -(n : Int) > -10 := by omega
  go_enter Tryd.func14, Tryd.ntmps14
  go_wp2_with fail
  go_ret
  exact ⟨congrArg Ending.returned hr.out, 0, rfl⟩
theorem rtext_step (n : Nat) (h : 10 ≤ n) (h2 : n ≤ 9223372036854775807) (hl : (textB ((n / 10 : Nat) : Int)).length ≤ 22)
    (ih : ∀ w, Calls Tryd.prog 14 #[.int .i64 ((n / 10 : Nat) : Int)] w fun e w' => e = .returned (str (textB ((n / 10 : Nat) : Int))) ∧ ∃ m, w' = w.drewN m) (w : World) :
    Calls Tryd.prog 14 #[.int .i64 (n : Int)] w fun e w' => e = .returned (str (textB n)) ∧ ∃ m, w' = w.drewN m := by
  have IH := Lib.hid ih
  obtain ⟨q, hq⟩ : ∃ q : Nat, q = n / 10 := ⟨_, rfl⟩
  obtain ⟨d, hd⟩ : ∃ d : Nat, d = n % 10 := ⟨_, rfl⟩
  have d9 : d < 10 := by omega
  have q9 : q < 922337203685477581 := by omega
  have E := Lib.hid (show textB (n : Int) = textB (q : Int) ++ [UInt8.ofNat (48 + d)] by
    rw [textB_step (n := (n : Int)) (by omega) (by omega)]
    congr 3
    · omega
    · omega)
  have e1 : (n : Int) / 10 = (q : Int) := by omega
  have e2 : (n : Int) % 10 = (d : Int) := by omega
  have e3 : (n : Int).tdiv 10 = (q : Int) := by rw [Int.tdiv_eq_ediv_of_nonneg (by omega)]; omega
  have e4 : (n : Int).tmod 10 = (d : Int) := by rw [Int.tmod_eq_emod_of_nonneg (by omega)]; omega
  rw [← hq] at IH hl
  clear ih hq hd
  go_enter Tryd.func14, Tryd.ntmps14
  go_wp2_with fail
  go_quiet ((go_at_call 14; refine Calls.quiet_of (IH.out _)))
  go_wp2_with fail
  go_ret
  exact ⟨congrArg Ending.returned ((digit_step d d9 _).trans (congrArg str E.out.symm)), _, rfl⟩
theorem rtext_neg_step (n : Nat) (h : 10 ≤ n) (h2 : n ≤ 9223372036854775808) (hl : (textB (-((n / 10 : Nat) : Int))).length ≤ 22)
    (ih : ∀ w, Calls Tryd.prog 14 #[.int .i64 (-((n / 10 : Nat) : Int))] w fun e w' => e = .returned (str (textB (-((n / 10 : Nat) : Int)))) ∧ ∃ m, w' = w.drewN m) (w : World) :
    Calls Tryd.prog 14 #[.int .i64 (-(n : Int))] w fun e w' => e = .returned (str (textB (-(n : Int)))) ∧ ∃ m, w' = w.drewN m := by
  have IH := Lib.hid ih
  obtain ⟨q, hq⟩ : ∃ q : Nat, q = n / 10 := ⟨_, rfl⟩
  obtain ⟨d, hd⟩ : ∃ d : Nat, d = n % 10 := ⟨_, rfl⟩
  have d9 : d < 10 := by omega
  have q9 : q < 922337203685477581 := by omega
  have E := Lib.hid (show textB (-(n : Int)) = textB (-(q : Int)) ++ [UInt8.ofNat (48 + d)] by
    rw [textB_neg_step (n := -(n : Int)) (by omega) (by omega)]
    congr 3
    · omega
    · omega)
  have i0 : -(n : Int) < 0 := by omega
  have i1 : ¬ -(n : Int) > -10 := by omega
  have i2 : ¬ -10 < -(n : Int) := by omega
  have e3 : (n : Int).tdiv 10 = (q : Int) := by rw [Int.tdiv_eq_ediv_of_nonneg (by omega)]; omega
  have e4 : (n : Int).tmod 10 = (d : Int) := by rw [Int.tmod_eq_emod_of_nonneg (by omega)]; omega
  have e5 : (-(n : Int)).tdiv 10 = -(q : Int) := by rw [Int.neg_tdiv, e3]
  have e6 : (-(n : Int)).tmod 10 = -(d : Int) := by rw [Int.neg_tmod, e4]
  rw [← hq] at IH hl
  clear ih hq hd
  go_enter Tryd.func14, Tryd.ntmps14
  go_wp2_with fail
  go_quiet ((go_at_call 14; refine Calls.quiet_of (IH.out _)))
  go_wp2_with fail
  go_ret
  exact ⟨congrArg Ending.returned ((digit_step d d9 _).trans (congrArg str E.out.symm)), _, rfl⟩

theorem rtext_pos_any : ∀ (f n : Nat), n < 10 ^ f → n ≤ 9223372036854775807 → ∀ w, Calls Tryd.prog 14 #[.int .i64 (n : Int)] w fun e w' => e = .returned (str (textB n)) ∧ ∃ m, w' = w.drewN m
  | 0, n, h, _, w => by
    obtain rfl : n = 0 := by simpa using h
    exact rtext_low 0 (by omega) w
  | f + 1, n, h, h2, w => by
    rcases Nat.lt_or_ge n 10 with hn | hn
    · exact rtext_low n hn w
    · exact rtext_step n hn h2 (textB_length _).1 (rtext_pos_any f (n / 10) (by rw [Nat.pow_succ] at h; omega) (by omega)) w
theorem rtext_neg_any : ∀ (f n : Nat), 0 < n → n < 10 ^ f → n ≤ 9223372036854775808 → ∀ w, Calls Tryd.prog 14 #[.int .i64 (-(n : Int))] w fun e w' => e = .returned (str (textB (-(n : Int)))) ∧ ∃ m, w' = w.drewN m
  | 0, n, h0, h, _, w => by
    have : n < 1 := by simpa using h
    omega
  | f + 1, n, h0, h, h2, w => by
    rcases Nat.lt_or_ge n 10 with hn | hn
    · exact rtext_neg_low n hn h0 w
    · exact rtext_neg_step n hn h2 (textB_length _).1 (rtext_neg_any f (n / 10) (by omega) (by rw [Nat.pow_succ] at h; omega) (by omega)) w
/-- Text. -/
theorem rtext_any (n : Int) (h0 : -9223372036854775808 ≤ n) (h1 : n ≤ 9223372036854775807) (w : World) :
    Calls Tryd.prog 14 #[.int .i64 n] w fun e w' => e = .returned (str (textB n)) ∧ ∃ m, w' = w.drewN m := by
  rcases Int.lt_or_le n 0 with h | h
  · obtain ⟨m, rfl⟩ : ∃ m : Nat, n = -(m : Int) := ⟨n.natAbs, by omega⟩
    exact rtext_neg_any 20 m (by omega) (by have : (10 : Nat) ^ 20 = 100000000000000000000 := by decide
                                            omega) (by omega) w
  · obtain ⟨m, rfl⟩ : ∃ m : Nat, n = (m : Int) := ⟨n.natAbs, by omega⟩
    exact rtext_pos_any 20 m (by have : (10 : Nat) ^ 20 = 100000000000000000000 := by decide
                                 omega) (by omega) w
end Go.Proofs.YtnlhipbdnihapaaDoor.Word

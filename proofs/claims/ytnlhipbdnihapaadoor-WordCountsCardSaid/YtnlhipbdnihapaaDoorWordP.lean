/- There and back: a number's word, a word's number. No program in sight. -/
import Derived.Test.YtnlhipbdnihapaaDoorWordN
namespace Go.Proofs.YtnlhipbdnihapaaDoor.Word
open Go.RowKit

theorem dig_toNat (d : Nat) (h : d < 10) : (UInt8.ofNat (48 + d)).toNat = 48 + d := by
  rw [UInt8.toNat_ofNat']
  exact Nat.mod_eq_of_lt (by omega)
theorem valN_snoc (l : Bytes) (x : UInt8) : valN (l ++ [x]) = 10 * valN l + (x.toNat - 48) := by
  unfold valN
  rw [List.foldl_append]
  rfl
theorem head_snoc (l : Bytes) (x : UInt8) (h : l ≠ []) : (l ++ [x]).head? = l.head? := by
  match l, h with
  | y :: r, _ => rfl
theorem isDig_of (d : Nat) (h : d < 10) : isDig (UInt8.ofNat (48 + d)) = true := by
  unfold isDig
  rw [dig_toNat d h, decide_eq_true (by omega), decide_eq_true (by omega)]
  rfl
theorem decN_all : ∀ (f n : Nat), n < 10 ^ f → n < 1000000000000000000000 → valN (decN n) = n ∧ (decN n).all isDig = true ∧ (0 < n → (decN n).head? ≠ some 48) ∧ decN n ≠ []
  | 0, n, h, _ => by
    have : n = 0 := by simpa using h
    subst this
    decide +kernel
  | f + 1, n, h, hb => by
    rcases Nat.lt_or_ge n 10 with hn | hn
    · rw [decN_low hn]
      refine ⟨?_, ?_, ?_, by simp⟩
      · show 10 * 0 + ((UInt8.ofNat (48 + n)).toNat - 48) = n
        rw [dig_toNat n hn]; omega
      · simp only [List.all_cons, List.all_nil, Bool.and_true]
        exact isDig_of n hn
      · intro h0 q
        simp only [List.head?_cons, Option.some.injEq] at q
        have := congrArg UInt8.toNat q
        rw [dig_toNat n hn] at this
        have e : (48 : UInt8).toNat = 48 := rfl
        omega
    · obtain ⟨h1, h2, h3, h4⟩ := decN_all f (n / 10) (by rw [Nat.pow_succ] at h; omega) (by omega)
      rw [decN_step hn hb]
      refine ⟨?_, ?_, ?_, by simp⟩
      · rw [valN_snoc, h1, dig_toNat _ (by omega)]; omega
      · rw [List.all_append, h2]
        simp only [List.all_cons, List.all_nil, Bool.and_true, Bool.true_and]
        exact isDig_of _ (by omega)
      · intro _
        rw [head_snoc _ _ h4]
        exact h3 (by omega)
theorem decN_any (n : Nat) (h : n < 1000000000000000000000) : valN (decN n) = n ∧ (decN n).all isDig = true ∧ (0 < n → (decN n).head? ≠ some 48) ∧ decN n ≠ [] := decN_all 21 n (by simpa using h) h
theorem isDig_not_minus {l : Bytes} (h : l.all isDig = true) : l.head? ≠ some 45 := by
  match l, h with
  | [], _ => simp
  | x :: r, h =>
    intro q
    have e : x = 45 := by simpa using q
    subst e
    simp [isDig] at h
theorem formD_decN (n : Nat) (h : n < 1000000000000000000000) (h0 : 0 < n) : formD (decN n) = true := by
  obtain ⟨_, h2, h3, h4⟩ := decN_any n h
  unfold formD
  rw [h2, decide_eq_true h4, decide_eq_true (h3 h0)]
  rfl
theorem numB_textB (n : Int) (h0 : -9223372036854775808 ≤ n) (h1 : n ≤ 9223372036854775807) : numB (textB n) = (n, 0) := by
  unfold textB
  split
  · rename_i hn
    have hp := decN_any n.natAbs (by omega)
    have hf : formB (45 :: decN n.natAbs) = true := by
      unfold formB
      rw [if_pos (by rfl)]
      have := formD_decN n.natAbs (by omega) (by omega)
      rw [List.drop_succ_cons, List.drop_zero, this, Bool.or_true]
    rw [numB_neg hf, hp.1, if_pos (by omega)]
    congr 1
    omega
  · rename_i hn
    have hp := decN_any n.natAbs (by omega)
    have hm := isDig_not_minus hp.2.1
    have hf : formB (decN n.natAbs) = true := by
      unfold formB
      rw [if_neg hm]
      by_cases hz : n.natAbs = 0
      · rw [hz]; rfl
      · rw [formD_decN n.natAbs (by omega) (by omega), Bool.or_true]
    rw [numB_pos hf hm, hp.1, if_pos (by omega)]
    congr 1
    omega

theorem isDig_bd {x : UInt8} (h : isDig x = true) : ∃ d, d < 10 ∧ x = UInt8.ofNat (48 + d) ∧ x.toNat - 48 = d := by
  unfold isDig at h
  rw [Bool.and_eq_true, decide_eq_true_iff, decide_eq_true_iff] at h
  refine ⟨x.toNat - 48, by omega, ?_, rfl⟩
  apply UInt8.toNat_inj.1
  rw [dig_toNat _ (by omega)]
  omega
/-- A number's digits are those that were read. -/
theorem decN_valN : ∀ (n : Nat) (l : Bytes), l.length = n → l.all isDig = true → l ≠ [] → l.head? ≠ some 48 → valN l < 1000000000000000000000 → decN (valN l) = l ∧ 0 < valN l
  | 0, l, hn, _, hne, _, _ => absurd (List.length_eq_zero_iff.1 hn) hne
  | n + 1, l, hn, ha, hne, hh, hv => by
    obtain ⟨r, x, rfl⟩ : ∃ r x, l = r ++ [x] := ⟨l.dropLast, l.getLast hne, (List.dropLast_concat_getLast hne).symm⟩
    rw [List.all_append] at ha
    simp only [List.all_cons, List.all_nil, Bool.and_true, Bool.and_eq_true] at ha
    obtain ⟨d, hd, hx, hd2⟩ := isDig_bd ha.2
    rw [valN_snoc, hd2] at hv ⊢
    by_cases hr : r = []
    · subst hr
      have d0 : 0 < d := by
        rcases Nat.eq_zero_or_pos d with z | z
        · subst z
          exfalso
          apply hh
          rw [hx]
          rfl
        · exact z
      rw [show 10 * valN [] + d = d by show 10 * 0 + d = d; omega, decN_low hd]
      exact ⟨by rw [hx]; rfl, d0⟩
    · rw [head_snoc r x hr] at hh
      obtain ⟨h1, h2⟩ := decN_valN n r (by simpa using hn) ha.1 hr hh (by omega)
      refine ⟨?_, by omega⟩
      rw [decN_step (by omega) hv, show (10 * valN r + d) / 10 = valN r by omega, show (10 * valN r + d) % 10 = d by omega, h1, hx]
theorem textB_numB (l : Bytes) (k : Int) (h : numB l = (k, 0)) : textB k = l := by
  by_cases hf : formB l = true
  · by_cases hm : l.head? = some 45
    · match l, hm, hf, h with
      | [], hm, _, _ => cases hm
      | x :: r, hm, hf, h =>
        have e : x = 45 := by simpa using hm
        subst e
        rw [numB_neg hf] at h
        split at h
        · rename_i hb
          have hk : -(valN r : Int) = k := (Prod.mk.inj h).1
          unfold formB at hf
          rw [if_pos (by rfl), decide_eq_false (by intro q; simp at q), Bool.false_or] at hf
          unfold formD at hf
          rw [Bool.and_eq_true, Bool.and_eq_true, decide_eq_true_iff, decide_eq_true_iff] at hf
          obtain ⟨h1, h2⟩ := decN_valN _ r rfl hf.1.1 hf.1.2 hf.2 (by omega)
          unfold textB
          rw [if_pos (by omega), show k.natAbs = valN r by omega, h1]
        · cases (Prod.mk.inj h).2
    · rw [numB_pos hf hm] at h
      split at h
      · rename_i hb
        have hk : (valN l : Int) = k := (Prod.mk.inj h).1
        unfold formB at hf
        rw [if_neg hm, Bool.or_eq_true, decide_eq_true_iff] at hf
        unfold textB
        rw [if_neg (by omega), show k.natAbs = valN l by omega]
        rcases hf with rfl | hf
        · rfl
        · unfold formD at hf
          rw [Bool.and_eq_true, Bool.and_eq_true, decide_eq_true_iff, decide_eq_true_iff] at hf
          exact (decN_valN _ l rfl hf.1.1 hf.1.2 hf.2 (by omega)).1
      · cases (Prod.mk.inj h).2
  · unfold numB at h
    rw [if_neg hf] at h
    cases (Prod.mk.inj h).2
end Go.Proofs.YtnlhipbdnihapaaDoor.Word

/- What NumText asks: plain facts on digits; what is known of a text. -/
import Derived.Test.YtinejcoajebdjaaNumM
namespace Go.Proofs.Ytinejcoajebdjaa
open Go.RowKit

theorem pow10_pos (k : Nat) : (0 : Int) < 10 ^ k := Int.pow_pos (by decide)
theorem div_zero_lt {N : Int} {k : Nat} (h : N / 10 ^ k = 0) : N < 10 ^ k := by
  have p := pow10_pos k
  have := Int.lt_ediv_add_one_mul_self N p
  rw [h] at this
  omega
theorem lt_div_zero {N : Int} {k : Nat} (h0 : 0 ≤ N) (h : N < 10 ^ k) : N / 10 ^ k = 0 := Int.ediv_eq_zero_of_lt h0 h
theorem div_top (N : Int) (h0 : 0 ≤ N) : ∀ k, N < 10 ^ (k + 1) → N / 10 ^ (top N (k + 1) + 1) = 0
  | 0, h => by
    have e : top N 1 = 0 := by unfold top; split <;> rfl
    rw [e]
    exact lt_div_zero h0 h
  | k + 1, h => by
    unfold top
    split
    · rename_i hd
      apply div_top N h0 k
      have e := lt_div_zero h0 h
      rw [← pow_div_succ] at e
      unfold dg at hd
      apply div_zero_lt
      omega
    · exact lt_div_zero h0 h
theorem top_dg (N : Int) : ∀ k, top N k = 0 ∨ dg N (top N k) ≠ 0
  | 0 => .inl rfl
  | k + 1 => by
    unfold top
    split
    · exact top_dg N k
    · rename_i h; exact .inr h
theorem div_place (N : Int) (j : Nat) : N / 10 ^ j = N / 10 ^ (j + 1) * 10 + dg N j := by
  rw [← pow_div_succ]
  unfold dg
  omega
theorem div39 (N : Int) (h0 : 0 ≤ N) (h1 : N < 340282366920938463463374607431768211456) : N / 10 ^ (top N 39 + 1) = 0 :=
  div_top N h0 38 (by have : (10 : Int) ^ (38 + 1) = 1000000000000000000000000000000000000000 := by decide
                      omega)
theorem lead_zero (N : Int) (h0 : 0 ≤ N) (h1 : N < 340282366920938463463374607431768211456) (h : dg N (top N 39) = 0) : N = 0 := by
  rcases top_dg N 39 with e | e
  · have a := div39 N h0 h1
    rw [e] at a h
    have b := div_place N 0
    rw [a, h] at b
    simpa using b
  · exact absurd h e

/-- ten times, and a digit: round the ring. -/
theorem wr_ten (N : Int) (j : Nat) : wr (wr (wr (wr (wr (wr (N / 10 ^ (j + 1)) + wr (N / 10 ^ (j + 1))) + wr (wr (N / 10 ^ (j + 1)) + wr (N / 10 ^ (j + 1)))) + wr (N / 10 ^ (j + 1))) + wr (wr (wr (wr (N / 10 ^ (j + 1)) + wr (N / 10 ^ (j + 1))) + wr (wr (N / 10 ^ (j + 1)) + wr (N / 10 ^ (j + 1)))) + wr (N / 10 ^ (j + 1)))) + dg N j) = wr (N / 10 ^ j) := by
  rw [div_place N j]
  generalize N / 10 ^ (j + 1) = q
  generalize dg N j = d
  unfold wr
  omega

/-- S is the text of N, behind f signs. -/
structure IsText (S : ByteArray) (f : Nat) (N : Int) : Prop where
  size : S.size = f + top N 39 + 1
  at_ : ∀ k (h : k < S.size), f ≤ k → (S[k].toNat : Int) = 48 + dg N (f + top N 39 - k)
  N0 : 0 ≤ N
  N1 : N < 340282366920938463463374607431768211456

theorem istext_pos (a : Int) (ha : IsW a) (h : 0 ≤ a) : IsText ⟨(text a).toArray⟩ 0 a := by
  rw [text_pos h]
  refine ⟨?_, ?_, h, by obtain ⟨_, _⟩ := ha; omega⟩
  · show ((dec a).toArray).size = _
    rw [List.size_toArray, dec_length]; omega
  · intro k hk _
    rw [Nat.zero_add]
    have hk' : k < ((dec a).toArray).size := hk
    rw [List.size_toArray] at hk'
    exact dec_get a k hk'
theorem istext_neg (a : Int) (ha : IsW a) (h : a < 0) : IsText ⟨(text a).toArray⟩ 1 (-a) := by
  rw [text_neg h]
  refine ⟨?_, ?_, by omega, by obtain ⟨_, _⟩ := ha; omega⟩
  · show ((45 :: dec (-a)).toArray).size = _
    rw [List.size_toArray, List.length_cons, dec_length]; omega
  · intro k hk hf
    obtain ⟨i, rfl⟩ : ∃ i, k = i + 1 := ⟨k - 1, by omega⟩
    have hk' : i < (dec (-a)).length := by
      have : i + 1 < ((45 :: dec (-a)).toArray).size := hk
      rw [List.size_toArray, List.length_cons] at this
      omega
    rw [show 1 + top (-a) 39 - (i + 1) = top (-a) 39 - i by omega]
    exact dec_get (-a) i hk'
end Go.Proofs.Ytinejcoajebdjaa
